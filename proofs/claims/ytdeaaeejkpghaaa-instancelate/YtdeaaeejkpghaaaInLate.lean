/-
  The walk of the law InstanceLate: below what was promised nothing is voted for, nor promised; nor at none at all.
-/
import Derived.Test.YtdeaaeejkpghaaaInMath
namespace Go.Proofs.Ytdeaaeejkpghaaa.In
open Go.RowKit
set_option linter.unusedVariables false
attribute [local go_sem ↓ high] Ba.eq23 Ba.guard23 Ba.neq23 Ba.guard23n eqc guardc


theorem fw_le {r : Rd} (h : fw r = true) : r.xs.length ≤ 50 := by
  simp [fw] at h
  omega

set_option maxHeartbeats 4000000 in
theorem late_a (r : Rd) (p : Sd) (A A' : Option Addr) (c c' : Nat) (w : World) (hs : At.Sl w w.heap.size .i64 A r.xs) (hs' : At.Sl w w.heap.size .i64 A' p.xs) (hf : fw r = false) : Calls Try.prog 5 #[rv r A c, sv p A' c'] w (UpPost w) := by
  have HA : ∀ W, Hid (Calls Try.prog 6 #[] W (UpPost W)) := fun W => awake_any W
  have HF : ∀ W, Hid (Calls Try.prog 11 #[rv r A c] W (BoolPost W (fw r))) := fun W => few9_any r A c W
  have HG : ∀ W, Hid (Calls Try.prog 7 #[av p.q A' p.xs.length c'] W (At.BoolPost W (decide ((p.xs.length : Int) ≤ 50)))) := fun W => At.few_any p.q A' p.xs.length c' W
  rw [hf] at HF
  generalize decide ((p.xs.length : Int) ≤ 50) = G at *
  have X0 : Rx ((w.alloc (.cells (rcs r A c) 32)).alloc (.cells (scs p A' c') 35)) (w.heap.size) r A c := by
    have h0 := rx_new w r A c
    exact (h0.old _)
  have P0 : Sb ((w.alloc (.cells (rcs r A c) 32)).alloc (.cells (scs p A' c') 35)) (w.heap.size + 1) p A' c' := by
    have h0 := sb_new (w.alloc (.cells (rcs r A c) 32)) p A' c'
    rw [show (w.alloc (.cells (rcs r A c) 32)).heap.size = w.heap.size + 1 by simp] at h0
    exact h0
  have B0 : Below w.heap.size w ((w.alloc (.cells (rcs r A c) 32)).alloc (.cells (scs p A' c') 35)) := (((Below.refl _ _).alloc (Nat.le_refl _) _).alloc (by first | (simp; done) | (simp; omega)) _)
  have S0 := hs.to B0 B0.size
  have T0 := hs'.to B0 B0.size
  go_enter Try.func5, Try.ntmps5
  go_wp2_with fail
  generalize ((w.alloc (.cells (rcs r A c) 32)).alloc (.cells (scs p A' c') 35)) = W0 at *
  clear hs hs'
  refine (HA _).out.mono ?_
  rintro e w1 ⟨rfl, b1⟩
  have B1 := B0.trans (b1.mono B0.size)
  have X1 := X0.on b1 X0.lt
  have P1 := P0.on b1 P0.lt
  have S1 := S0.up b1
  have T1 := T0.up b1
  clear b1 B0 X0 P0 S0 T0
  obtain ⟨p0, p1, p2, p3, p4, p5, p6, p7, p8, p9, p10, p11, p12⟩ := id X1.rb
  obtain ⟨q0, q1, q2, q3, q4, q5, q6, q7, q8, q9, q10⟩ := id P1
  go_wp2_with fail
  clear p0 p1 p2 p3 p4 p5 p6 p7 p8 p9 p10 p11 p12 q0 q1 q2 q3 q4 q5 q6 q7 q8 q9 q10
  refine (HF _).out.mono ?_
  rintro e w2 ⟨rfl, b2⟩
  have B2 := B1.trans (b2.mono B1.size)
  have X2 := X1.on b2 X1.lt
  have P2 := P1.on b2 P1.lt
  have S2 := S1.up b2
  have T2 := T1.up b2
  clear b2 B1 X1 P1 S1 T1
  obtain ⟨p0, p1, p2, p3, p4, p5, p6, p7, p8, p9, p10, p11, p12⟩ := id X2.rb
  obtain ⟨q0, q1, q2, q3, q4, q5, q6, q7, q8, q9, q10⟩ := id P2
  go_wp2_with fail
  clear p0 p1 p2 p3 p4 p5 p6 p7 p8 p9 p10 p11 p12 q0 q1 q2 q3 q4 q5 q6 q7 q8 q9 q10
  refine (HG _).out.mono ?_
  rintro e w3 ⟨rfl, b3⟩
  have B3 := B2.trans (b3.mono B2.size)
  have X3 := X2.on b3 X2.lt
  have P3 := P2.on b3 P2.lt
  have S3 := S2.up b3
  have T3 := T2.up b3
  clear b3 B2 X2 P2 S2 T2
  obtain ⟨p0, p1, p2, p3, p4, p5, p6, p7, p8, p9, p10, p11, p12⟩ := id X3.rb
  obtain ⟨q0, q1, q2, q3, q4, q5, q6, q7, q8, q9, q10⟩ := id P3
  go_wp2
  go_ret
  exact ⟨rfl, B3⟩

set_option maxHeartbeats 4000000 in
theorem late_b (r : Rd) (p : Sd) (A A' : Option Addr) (c c' : Nat) (w : World) (hs : At.Sl w w.heap.size .i64 A r.xs) (hs' : At.Sl w w.heap.size .i64 A' p.xs) (hf : fw r = true) (hg : decide ((p.xs.length : Int) ≤ 50) = false) : Calls Try.prog 5 #[rv r A c, sv p A' c'] w (UpPost w) := by
  have HA : ∀ W, Hid (Calls Try.prog 6 #[] W (UpPost W)) := fun W => awake_any W
  have HF : ∀ W, Hid (Calls Try.prog 11 #[rv r A c] W (BoolPost W (fw r))) := fun W => few9_any r A c W
  have HG : ∀ W, Hid (Calls Try.prog 7 #[av p.q A' p.xs.length c'] W (At.BoolPost W (decide ((p.xs.length : Int) ≤ 50)))) := fun W => At.few_any p.q A' p.xs.length c' W
  rw [hf] at HF
  rw [hg] at HG
  have X0 : Rx ((w.alloc (.cells (rcs r A c) 32)).alloc (.cells (scs p A' c') 35)) (w.heap.size) r A c := by
    have h0 := rx_new w r A c
    exact (h0.old _)
  have P0 : Sb ((w.alloc (.cells (rcs r A c) 32)).alloc (.cells (scs p A' c') 35)) (w.heap.size + 1) p A' c' := by
    have h0 := sb_new (w.alloc (.cells (rcs r A c) 32)) p A' c'
    rw [show (w.alloc (.cells (rcs r A c) 32)).heap.size = w.heap.size + 1 by simp] at h0
    exact h0
  have B0 : Below w.heap.size w ((w.alloc (.cells (rcs r A c) 32)).alloc (.cells (scs p A' c') 35)) := (((Below.refl _ _).alloc (Nat.le_refl _) _).alloc (by first | (simp; done) | (simp; omega)) _)
  have S0 := hs.to B0 B0.size
  have T0 := hs'.to B0 B0.size
  go_enter Try.func5, Try.ntmps5
  go_wp2_with fail
  generalize ((w.alloc (.cells (rcs r A c) 32)).alloc (.cells (scs p A' c') 35)) = W0 at *
  clear hs hs'
  refine (HA _).out.mono ?_
  rintro e w1 ⟨rfl, b1⟩
  have B1 := B0.trans (b1.mono B0.size)
  have X1 := X0.on b1 X0.lt
  have P1 := P0.on b1 P0.lt
  have S1 := S0.up b1
  have T1 := T0.up b1
  clear b1 B0 X0 P0 S0 T0
  obtain ⟨p0, p1, p2, p3, p4, p5, p6, p7, p8, p9, p10, p11, p12⟩ := id X1.rb
  obtain ⟨q0, q1, q2, q3, q4, q5, q6, q7, q8, q9, q10⟩ := id P1
  go_wp2_with fail
  clear p0 p1 p2 p3 p4 p5 p6 p7 p8 p9 p10 p11 p12 q0 q1 q2 q3 q4 q5 q6 q7 q8 q9 q10
  refine (HF _).out.mono ?_
  rintro e w2 ⟨rfl, b2⟩
  have B2 := B1.trans (b2.mono B1.size)
  have X2 := X1.on b2 X1.lt
  have P2 := P1.on b2 P1.lt
  have S2 := S1.up b2
  have T2 := T1.up b2
  clear b2 B1 X1 P1 S1 T1
  obtain ⟨p0, p1, p2, p3, p4, p5, p6, p7, p8, p9, p10, p11, p12⟩ := id X2.rb
  obtain ⟨q0, q1, q2, q3, q4, q5, q6, q7, q8, q9, q10⟩ := id P2
  go_wp2_with fail
  clear p0 p1 p2 p3 p4 p5 p6 p7 p8 p9 p10 p11 p12 q0 q1 q2 q3 q4 q5 q6 q7 q8 q9 q10
  refine (HG _).out.mono ?_
  rintro e w3 ⟨rfl, b3⟩
  have B3 := B2.trans (b3.mono B2.size)
  have X3 := X2.on b3 X2.lt
  have P3 := P2.on b3 P2.lt
  have S3 := S2.up b3
  have T3 := T2.up b3
  clear b3 B2 X2 P2 S2 T2
  obtain ⟨p0, p1, p2, p3, p4, p5, p6, p7, p8, p9, p10, p11, p12⟩ := id X3.rb
  obtain ⟨q0, q1, q2, q3, q4, q5, q6, q7, q8, q9, q10⟩ := id P3
  go_wp2
  go_ret
  exact ⟨rfl, B3⟩

set_option maxHeartbeats 4000000 in
theorem late_c (r : Rd) (p : Sd) (A A' : Option Addr) (c c' : Nat) (w : World) (hs : At.Sl w w.heap.size .i64 A r.xs) (hs' : At.Sl w w.heap.size .i64 A' p.xs) (hf : fw r = true) (hg : decide ((p.xs.length : Int) ≤ 50) = true) (h0 : p.g < 0) : Calls Try.prog 5 #[rv r A c, sv p A' c'] w (UpPost w) := by
  have HA : ∀ W, Hid (Calls Try.prog 6 #[] W (UpPost W)) := fun W => awake_any W
  have HF : ∀ W, Hid (Calls Try.prog 11 #[rv r A c] W (BoolPost W (fw r))) := fun W => few9_any r A c W
  have HG : ∀ W, Hid (Calls Try.prog 7 #[av p.q A' p.xs.length c'] W (At.BoolPost W (decide ((p.xs.length : Int) ≤ 50)))) := fun W => At.few_any p.q A' p.xs.length c' W
  rw [hf] at HF
  rw [hg] at HG
  have X0 : Rx ((w.alloc (.cells (rcs r A c) 32)).alloc (.cells (scs p A' c') 35)) (w.heap.size) r A c := by
    have h0 := rx_new w r A c
    exact (h0.old _)
  have P0 : Sb ((w.alloc (.cells (rcs r A c) 32)).alloc (.cells (scs p A' c') 35)) (w.heap.size + 1) p A' c' := by
    have h0 := sb_new (w.alloc (.cells (rcs r A c) 32)) p A' c'
    rw [show (w.alloc (.cells (rcs r A c) 32)).heap.size = w.heap.size + 1 by simp] at h0
    exact h0
  have B0 : Below w.heap.size w ((w.alloc (.cells (rcs r A c) 32)).alloc (.cells (scs p A' c') 35)) := (((Below.refl _ _).alloc (Nat.le_refl _) _).alloc (by first | (simp; done) | (simp; omega)) _)
  have S0 := hs.to B0 B0.size
  have T0 := hs'.to B0 B0.size
  go_enter Try.func5, Try.ntmps5
  go_wp2_with fail
  generalize ((w.alloc (.cells (rcs r A c) 32)).alloc (.cells (scs p A' c') 35)) = W0 at *
  clear hs hs'
  refine (HA _).out.mono ?_
  rintro e w1 ⟨rfl, b1⟩
  have B1 := B0.trans (b1.mono B0.size)
  have X1 := X0.on b1 X0.lt
  have P1 := P0.on b1 P0.lt
  have S1 := S0.up b1
  have T1 := T0.up b1
  clear b1 B0 X0 P0 S0 T0
  obtain ⟨p0, p1, p2, p3, p4, p5, p6, p7, p8, p9, p10, p11, p12⟩ := id X1.rb
  obtain ⟨q0, q1, q2, q3, q4, q5, q6, q7, q8, q9, q10⟩ := id P1
  go_wp2_with fail
  clear p0 p1 p2 p3 p4 p5 p6 p7 p8 p9 p10 p11 p12 q0 q1 q2 q3 q4 q5 q6 q7 q8 q9 q10
  refine (HF _).out.mono ?_
  rintro e w2 ⟨rfl, b2⟩
  have B2 := B1.trans (b2.mono B1.size)
  have X2 := X1.on b2 X1.lt
  have P2 := P1.on b2 P1.lt
  have S2 := S1.up b2
  have T2 := T1.up b2
  clear b2 B1 X1 P1 S1 T1
  obtain ⟨p0, p1, p2, p3, p4, p5, p6, p7, p8, p9, p10, p11, p12⟩ := id X2.rb
  obtain ⟨q0, q1, q2, q3, q4, q5, q6, q7, q8, q9, q10⟩ := id P2
  go_wp2_with fail
  clear p0 p1 p2 p3 p4 p5 p6 p7 p8 p9 p10 p11 p12 q0 q1 q2 q3 q4 q5 q6 q7 q8 q9 q10
  refine (HG _).out.mono ?_
  rintro e w3 ⟨rfl, b3⟩
  have B3 := B2.trans (b3.mono B2.size)
  have X3 := X2.on b3 X2.lt
  have P3 := P2.on b3 P2.lt
  have S3 := S2.up b3
  have T3 := T2.up b3
  clear b3 B2 X2 P2 S2 T2
  obtain ⟨p0, p1, p2, p3, p4, p5, p6, p7, p8, p9, p10, p11, p12⟩ := id X3.rb
  obtain ⟨q0, q1, q2, q3, q4, q5, q6, q7, q8, q9, q10⟩ := id P3
  go_wp2
  go_ret
  exact ⟨rfl, B3⟩

set_option maxHeartbeats 4000000 in
theorem late_d (r : Rd) (p : Sd) (A A' : Option Addr) (c c' : Nat) (w : World) (hs : At.Sl w w.heap.size .i64 A r.xs) (hs' : At.Sl w w.heap.size .i64 A' p.xs) (hf : fw r = true) (hg : decide ((p.xs.length : Int) ≤ 50) = true) (h0 : ¬ p.g < 0) (h2 : 2 < p.g) : Calls Try.prog 5 #[rv r A c, sv p A' c'] w (UpPost w) := by
  have HA : ∀ W, Hid (Calls Try.prog 6 #[] W (UpPost W)) := fun W => awake_any W
  have HF : ∀ W, Hid (Calls Try.prog 11 #[rv r A c] W (BoolPost W (fw r))) := fun W => few9_any r A c W
  have HG : ∀ W, Hid (Calls Try.prog 7 #[av p.q A' p.xs.length c'] W (At.BoolPost W (decide ((p.xs.length : Int) ≤ 50)))) := fun W => At.few_any p.q A' p.xs.length c' W
  rw [hf] at HF
  rw [hg] at HG
  have X0 : Rx ((w.alloc (.cells (rcs r A c) 32)).alloc (.cells (scs p A' c') 35)) (w.heap.size) r A c := by
    have h0 := rx_new w r A c
    exact (h0.old _)
  have P0 : Sb ((w.alloc (.cells (rcs r A c) 32)).alloc (.cells (scs p A' c') 35)) (w.heap.size + 1) p A' c' := by
    have h0 := sb_new (w.alloc (.cells (rcs r A c) 32)) p A' c'
    rw [show (w.alloc (.cells (rcs r A c) 32)).heap.size = w.heap.size + 1 by simp] at h0
    exact h0
  have B0 : Below w.heap.size w ((w.alloc (.cells (rcs r A c) 32)).alloc (.cells (scs p A' c') 35)) := (((Below.refl _ _).alloc (Nat.le_refl _) _).alloc (by first | (simp; done) | (simp; omega)) _)
  have S0 := hs.to B0 B0.size
  have T0 := hs'.to B0 B0.size
  go_enter Try.func5, Try.ntmps5
  go_wp2_with fail
  generalize ((w.alloc (.cells (rcs r A c) 32)).alloc (.cells (scs p A' c') 35)) = W0 at *
  clear hs hs'
  refine (HA _).out.mono ?_
  rintro e w1 ⟨rfl, b1⟩
  have B1 := B0.trans (b1.mono B0.size)
  have X1 := X0.on b1 X0.lt
  have P1 := P0.on b1 P0.lt
  have S1 := S0.up b1
  have T1 := T0.up b1
  clear b1 B0 X0 P0 S0 T0
  obtain ⟨p0, p1, p2, p3, p4, p5, p6, p7, p8, p9, p10, p11, p12⟩ := id X1.rb
  obtain ⟨q0, q1, q2, q3, q4, q5, q6, q7, q8, q9, q10⟩ := id P1
  go_wp2_with fail
  clear p0 p1 p2 p3 p4 p5 p6 p7 p8 p9 p10 p11 p12 q0 q1 q2 q3 q4 q5 q6 q7 q8 q9 q10
  refine (HF _).out.mono ?_
  rintro e w2 ⟨rfl, b2⟩
  have B2 := B1.trans (b2.mono B1.size)
  have X2 := X1.on b2 X1.lt
  have P2 := P1.on b2 P1.lt
  have S2 := S1.up b2
  have T2 := T1.up b2
  clear b2 B1 X1 P1 S1 T1
  obtain ⟨p0, p1, p2, p3, p4, p5, p6, p7, p8, p9, p10, p11, p12⟩ := id X2.rb
  obtain ⟨q0, q1, q2, q3, q4, q5, q6, q7, q8, q9, q10⟩ := id P2
  go_wp2_with fail
  clear p0 p1 p2 p3 p4 p5 p6 p7 p8 p9 p10 p11 p12 q0 q1 q2 q3 q4 q5 q6 q7 q8 q9 q10
  refine (HG _).out.mono ?_
  rintro e w3 ⟨rfl, b3⟩
  have B3 := B2.trans (b3.mono B2.size)
  have X3 := X2.on b3 X2.lt
  have P3 := P2.on b3 P2.lt
  have S3 := S2.up b3
  have T3 := T2.up b3
  clear b3 B2 X2 P2 S2 T2
  obtain ⟨p0, p1, p2, p3, p4, p5, p6, p7, p8, p9, p10, p11, p12⟩ := id X3.rb
  obtain ⟨q0, q1, q2, q3, q4, q5, q6, q7, q8, q9, q10⟩ := id P3
  go_wp2
  go_ret
  exact ⟨rfl, B3⟩

set_option maxHeartbeats 4000000 in
theorem late_e (r : Rd) (p : Sd) (A A' : Option Addr) (c c' : Nat) (w : World) (hs : At.Sl w w.heap.size .i64 A r.xs) (hs' : At.Sl w w.heap.size .i64 A' p.xs) (hf : fw r = true) (hg : decide ((p.xs.length : Int) ≤ 50) = true) (h0 : ¬ p.g < 0) (h2 : ¬ 2 < p.g) (hm : 0 < Ba.cm r.vn r.vb r.pn r.pb) : Calls Try.prog 5 #[rv r A c, sv p A' c'] w (UpPost w) := by
  have HA : ∀ W, Hid (Calls Try.prog 6 #[] W (UpPost W)) := fun W => awake_any W
  have HF : ∀ W, Hid (Calls Try.prog 11 #[rv r A c] W (BoolPost W (fw r))) := fun W => few9_any r A c W
  have HG : ∀ W, Hid (Calls Try.prog 7 #[av p.q A' p.xs.length c'] W (At.BoolPost W (decide ((p.xs.length : Int) ≤ 50)))) := fun W => At.few_any p.q A' p.xs.length c' W
  rw [hf] at HF
  rw [hg] at HG
  have HC : ∀ W, Hid (Calls Try.prog 9 #[bv r.vn r.vb, bv r.pn r.pb] W (Ba.IntPost W (Ba.cm r.vn r.vb r.pn r.pb))) := fun W => Ba.cmp_any r.vn r.vb r.pn r.pb W
  generalize Ba.cm r.vn r.vb r.pn r.pb = m1 at *
  have X0 : Rx ((w.alloc (.cells (rcs r A c) 32)).alloc (.cells (scs p A' c') 35)) (w.heap.size) r A c := by
    have h0 := rx_new w r A c
    exact (h0.old _)
  have P0 : Sb ((w.alloc (.cells (rcs r A c) 32)).alloc (.cells (scs p A' c') 35)) (w.heap.size + 1) p A' c' := by
    have h0 := sb_new (w.alloc (.cells (rcs r A c) 32)) p A' c'
    rw [show (w.alloc (.cells (rcs r A c) 32)).heap.size = w.heap.size + 1 by simp] at h0
    exact h0
  have B0 : Below w.heap.size w ((w.alloc (.cells (rcs r A c) 32)).alloc (.cells (scs p A' c') 35)) := (((Below.refl _ _).alloc (Nat.le_refl _) _).alloc (by first | (simp; done) | (simp; omega)) _)
  have S0 := hs.to B0 B0.size
  have T0 := hs'.to B0 B0.size
  go_enter Try.func5, Try.ntmps5
  go_wp2_with fail
  generalize ((w.alloc (.cells (rcs r A c) 32)).alloc (.cells (scs p A' c') 35)) = W0 at *
  clear hs hs'
  refine (HA _).out.mono ?_
  rintro e w1 ⟨rfl, b1⟩
  have B1 := B0.trans (b1.mono B0.size)
  have X1 := X0.on b1 X0.lt
  have P1 := P0.on b1 P0.lt
  have S1 := S0.up b1
  have T1 := T0.up b1
  clear b1 B0 X0 P0 S0 T0
  obtain ⟨p0, p1, p2, p3, p4, p5, p6, p7, p8, p9, p10, p11, p12⟩ := id X1.rb
  obtain ⟨q0, q1, q2, q3, q4, q5, q6, q7, q8, q9, q10⟩ := id P1
  go_wp2_with fail
  clear p0 p1 p2 p3 p4 p5 p6 p7 p8 p9 p10 p11 p12 q0 q1 q2 q3 q4 q5 q6 q7 q8 q9 q10
  refine (HF _).out.mono ?_
  rintro e w2 ⟨rfl, b2⟩
  have B2 := B1.trans (b2.mono B1.size)
  have X2 := X1.on b2 X1.lt
  have P2 := P1.on b2 P1.lt
  have S2 := S1.up b2
  have T2 := T1.up b2
  clear b2 B1 X1 P1 S1 T1
  obtain ⟨p0, p1, p2, p3, p4, p5, p6, p7, p8, p9, p10, p11, p12⟩ := id X2.rb
  obtain ⟨q0, q1, q2, q3, q4, q5, q6, q7, q8, q9, q10⟩ := id P2
  go_wp2_with fail
  clear p0 p1 p2 p3 p4 p5 p6 p7 p8 p9 p10 p11 p12 q0 q1 q2 q3 q4 q5 q6 q7 q8 q9 q10
  refine (HG _).out.mono ?_
  rintro e w3 ⟨rfl, b3⟩
  have B3 := B2.trans (b3.mono B2.size)
  have X3 := X2.on b3 X2.lt
  have P3 := P2.on b3 P2.lt
  have S3 := S2.up b3
  have T3 := T2.up b3
  clear b3 B2 X2 P2 S2 T2
  obtain ⟨p0, p1, p2, p3, p4, p5, p6, p7, p8, p9, p10, p11, p12⟩ := id X3.rb
  obtain ⟨q0, q1, q2, q3, q4, q5, q6, q7, q8, q9, q10⟩ := id P3
  go_wp2_with fail
  clear p0 p1 p2 p3 p4 p5 p6 p7 p8 p9 p10 p11 p12 q0 q1 q2 q3 q4 q5 q6 q7 q8 q9 q10
  refine (HC _).out.mono ?_
  rintro e w4 ⟨rfl, b4⟩
  have B4 := B3.trans (b4.mono B3.size)
  have X4 := X3.on b4 X3.lt
  have P4 := P3.on b4 P3.lt
  have S4 := S3.up b4
  have T4 := T3.up b4
  clear b4 B3 X3 P3 S3 T3
  obtain ⟨p0, p1, p2, p3, p4, p5, p6, p7, p8, p9, p10, p11, p12⟩ := id X4.rb
  obtain ⟨q0, q1, q2, q3, q4, q5, q6, q7, q8, q9, q10⟩ := id P4
  go_wp2
  go_ret
  exact ⟨rfl, B4⟩

set_option maxHeartbeats 4000000 in
theorem late_less (r : Rd) (p : Sd) (A A' : Option Addr) (c c' : Nat) (w : World) (hs : At.Sl w w.heap.size .i64 A r.xs) (hs' : At.Sl w w.heap.size .i64 A' p.xs) (hf : fw r = true) (hg : decide ((p.xs.length : Int) ≤ 50) = true) (h0 : ¬ p.g < 0) (h2 : ¬ 2 < p.g) (hm : ¬ 0 < Ba.cm r.vn r.vb r.pn r.pb) (hl : Ba.cm p.x p.y r.pn r.pb < 0) (hn' : Bool) (hn : ((p.x == 0) && (p.y == 0)) = hn') : Calls Try.prog 5 #[rv r A c, sv p A' c'] w (UpPost w) := by
  have HA : ∀ W, Hid (Calls Try.prog 6 #[] W (UpPost W)) := fun W => awake_any W
  have HF : ∀ W, Hid (Calls Try.prog 11 #[rv r A c] W (BoolPost W (fw r))) := fun W => few9_any r A c W
  have HG : ∀ W, Hid (Calls Try.prog 7 #[av p.q A' p.xs.length c'] W (At.BoolPost W (decide ((p.xs.length : Int) ≤ 50)))) := fun W => At.few_any p.q A' p.xs.length c' W
  rw [hf] at HF
  rw [hg] at HG
  have HC : ∀ W, Hid (Calls Try.prog 9 #[bv r.vn r.vb, bv r.pn r.pb] W (Ba.IntPost W (Ba.cm r.vn r.vb r.pn r.pb))) := fun W => Ba.cmp_any r.vn r.vb r.pn r.pb W
  have HD : ∀ W, At.Sl W W.heap.size .i64 A r.xs → At.Sl W W.heap.size .i64 A' p.xs → Hid (Calls Try.prog 8 #[rv r A c, sv p A' c'] W (VotePost W (ds r p) (db r p))) := fun W g g' => does_any r p A A' c c' W g g' (by have := fw_le hf; omega) (by have := of_decide_eq_true hg; omega)
  have HE : ∀ W, Hid (Calls Try.prog 9 #[bv p.x p.y, bv r.pn r.pb] W (Ba.IntPost W (Ba.cm p.x p.y r.pn r.pb))) := fun W => Ba.cmp_any p.x p.y r.pn r.pb W
  have hst : db r p = false ∧ ds r p = r := late_stays (by omega) (by omega) (.inl hl)
  rw [hst.1, hst.2] at HD
  clear hst
  have HS : ∀ W A9 c9, At.Sl W W.heap.size .i64 A9 r.xs → At.Sl W W.heap.size .i64 A r.xs → Hid (Calls Try.prog 10 #[rv r A9 c9, rv r A c] W (BoolPost W true)) := fun W A9 c9 g g' => by
    have := same_any r r A9 A c9 c W g g' (by have := fw_le hf; omega) (by have := fw_le hf; omega)
    rw [sm_self] at this
    exact this
  generalize Ba.cm r.vn r.vb r.pn r.pb = m1 at *
  generalize Ba.cm p.x p.y r.pn r.pb = m2 at *
  clear hf hg
  have X0 : Rx ((w.alloc (.cells (rcs r A c) 32)).alloc (.cells (scs p A' c') 35)) (w.heap.size) r A c := by
    have h0 := rx_new w r A c
    exact (h0.old _)
  have P0 : Sb ((w.alloc (.cells (rcs r A c) 32)).alloc (.cells (scs p A' c') 35)) (w.heap.size + 1) p A' c' := by
    have h0 := sb_new (w.alloc (.cells (rcs r A c) 32)) p A' c'
    rw [show (w.alloc (.cells (rcs r A c) 32)).heap.size = w.heap.size + 1 by simp] at h0
    exact h0
  have B0 : Below w.heap.size w ((w.alloc (.cells (rcs r A c) 32)).alloc (.cells (scs p A' c') 35)) := (((Below.refl _ _).alloc (Nat.le_refl _) _).alloc (by first | (simp; done) | (simp; omega)) _)
  have S0 := hs.to B0 B0.size
  have T0 := hs'.to B0 B0.size
  go_enter Try.func5, Try.ntmps5
  go_wp2_with fail
  generalize ((w.alloc (.cells (rcs r A c) 32)).alloc (.cells (scs p A' c') 35)) = W0 at *
  clear hs hs'
  refine (HA _).out.mono ?_
  rintro e w1 ⟨rfl, b1⟩
  have B1 := B0.trans (b1.mono B0.size)
  have X1 := X0.on b1 X0.lt
  have P1 := P0.on b1 P0.lt
  have S1 := S0.up b1
  have T1 := T0.up b1
  clear b1 B0 X0 P0 S0 T0
  obtain ⟨p0, p1, p2, p3, p4, p5, p6, p7, p8, p9, p10, p11, p12⟩ := id X1.rb
  obtain ⟨q0, q1, q2, q3, q4, q5, q6, q7, q8, q9, q10⟩ := id P1
  go_wp2_with fail
  clear p0 p1 p2 p3 p4 p5 p6 p7 p8 p9 p10 p11 p12 q0 q1 q2 q3 q4 q5 q6 q7 q8 q9 q10
  refine (HF _).out.mono ?_
  rintro e w2 ⟨rfl, b2⟩
  have B2 := B1.trans (b2.mono B1.size)
  have X2 := X1.on b2 X1.lt
  have P2 := P1.on b2 P1.lt
  have S2 := S1.up b2
  have T2 := T1.up b2
  clear b2 B1 X1 P1 S1 T1
  obtain ⟨p0, p1, p2, p3, p4, p5, p6, p7, p8, p9, p10, p11, p12⟩ := id X2.rb
  obtain ⟨q0, q1, q2, q3, q4, q5, q6, q7, q8, q9, q10⟩ := id P2
  go_wp2_with fail
  clear p0 p1 p2 p3 p4 p5 p6 p7 p8 p9 p10 p11 p12 q0 q1 q2 q3 q4 q5 q6 q7 q8 q9 q10
  refine (HG _).out.mono ?_
  rintro e w3 ⟨rfl, b3⟩
  have B3 := B2.trans (b3.mono B2.size)
  have X3 := X2.on b3 X2.lt
  have P3 := P2.on b3 P2.lt
  have S3 := S2.up b3
  have T3 := T2.up b3
  clear b3 B2 X2 P2 S2 T2
  obtain ⟨p0, p1, p2, p3, p4, p5, p6, p7, p8, p9, p10, p11, p12⟩ := id X3.rb
  obtain ⟨q0, q1, q2, q3, q4, q5, q6, q7, q8, q9, q10⟩ := id P3
  go_wp2_with fail
  clear p0 p1 p2 p3 p4 p5 p6 p7 p8 p9 p10 p11 p12 q0 q1 q2 q3 q4 q5 q6 q7 q8 q9 q10
  refine (HC _).out.mono ?_
  rintro e w4 ⟨rfl, b4⟩
  have B4 := B3.trans (b4.mono B3.size)
  have X4 := X3.on b4 X3.lt
  have P4 := P3.on b4 P3.lt
  have S4 := S3.up b4
  have T4 := T3.up b4
  clear b4 B3 X3 P3 S3 T3
  obtain ⟨p0, p1, p2, p3, p4, p5, p6, p7, p8, p9, p10, p11, p12⟩ := id X4.rb
  obtain ⟨q0, q1, q2, q3, q4, q5, q6, q7, q8, q9, q10⟩ := id P4
  go_wp2_with fail
  clear p0 p1 p2 p3 p4 p5 p6 p7 p8 p9 p10 p11 p12 q0 q1 q2 q3 q4 q5 q6 q7 q8 q9 q10
  refine (HD _ S4 T4).out.mono ?_
  rintro e w5 ⟨A9, c9, rfl, f5, b5⟩
  have B5 := B4.trans (b5.mono B4.size)
  have X5 := X4.on b5 X4.lt
  have P5 := P4.on b5 P4.lt
  have S5 := S4.up b5
  have T5 := T4.up b5
  clear b5 B4 X4 P4 S4 T4
  obtain ⟨p0, p1, p2, p3, p4, p5, p6, p7, p8, p9, p10, p11, p12⟩ := id X5.rb
  obtain ⟨q0, q1, q2, q3, q4, q5, q6, q7, q8, q9, q10⟩ := id P5
  have xl5 := X5.lt
  have pl5 := P5.lt
  go_wp2_with fail
  clear p0 p1 p2 p3 p4 p5 p6 p7 p8 p9 p10 p11 p12 q0 q1 q2 q3 q4 q5 q6 q7 q8 q9 q10
  have B6 := B5.alloc B5.size (.cells (rcs r A9 c9) 32)
  have X6 := X5.old (.cells (rcs r A9 c9) 32)
  have P6 := P5.old (.cells (rcs r A9 c9) 32)
  have a6 : Below w5.heap.size w5 (w5.alloc (.cells (rcs r A9 c9) 32)) := (Below.refl _ _).alloc (Nat.le_refl _) _
  have S6 := S5.up a6
  have T6 := T5.up a6
  have O6 : Rx (w5.alloc (.cells (rcs r A9 c9) 32)) w5.heap.size r A9 c9 := rx_new w5 r A9 c9
  have U6 := (f5.on a6).sl
  clear B5 X5 P5 S5 T5 a6 f5
  generalize (w5.alloc (.cells (rcs r A9 c9) 32)) = V6 at *
  refine (HE _).out.mono ?_
  rintro e w7 ⟨rfl, b7⟩
  have O7 := O6.on b7 O6.lt
  have U7 := U6.up b7
  obtain ⟨o0, o1, o2, o3, o4, o5, o6, o7, o8, o9, o10, o11, o12⟩ := id O7.rb
  have B7 := B6.trans (b7.mono B6.size)
  have X7 := X6.on b7 X6.lt
  have P7 := P6.on b7 P6.lt
  have S7 := S6.up b7
  have T7 := T6.up b7
  clear b7 B6 X6 P6 S6 T6
  obtain ⟨p0, p1, p2, p3, p4, p5, p6, p7, p8, p9, p10, p11, p12⟩ := id X7.rb
  obtain ⟨q0, q1, q2, q3, q4, q5, q6, q7, q8, q9, q10⟩ := id P7
  go_wp2_with fail
  refine (HS _ A9 c9 U7 S7).out.mono ?_
  rintro e w8 ⟨rfl, b8⟩
  have B8 := B7.trans (b8.mono B7.size)
  go_wp2
  go_ret
  exact ⟨rfl, B8⟩

set_option maxHeartbeats 4000000 in
theorem late_none (r : Rd) (p : Sd) (A A' : Option Addr) (c c' : Nat) (w : World) (hs : At.Sl w w.heap.size .i64 A r.xs) (hs' : At.Sl w w.heap.size .i64 A' p.xs) (hf : fw r = true) (hg : decide ((p.xs.length : Int) ≤ 50) = true) (h0 : ¬ p.g < 0) (h2 : ¬ 2 < p.g) (hm : ¬ 0 < Ba.cm r.vn r.vb r.pn r.pb) (hl : ¬ Ba.cm p.x p.y r.pn r.pb < 0) (hn : ((p.x == 0) && (p.y == 0)) = true) : Calls Try.prog 5 #[rv r A c, sv p A' c'] w (UpPost w) := by
  have HA : ∀ W, Hid (Calls Try.prog 6 #[] W (UpPost W)) := fun W => awake_any W
  have HF : ∀ W, Hid (Calls Try.prog 11 #[rv r A c] W (BoolPost W (fw r))) := fun W => few9_any r A c W
  have HG : ∀ W, Hid (Calls Try.prog 7 #[av p.q A' p.xs.length c'] W (At.BoolPost W (decide ((p.xs.length : Int) ≤ 50)))) := fun W => At.few_any p.q A' p.xs.length c' W
  rw [hf] at HF
  rw [hg] at HG
  have HC : ∀ W, Hid (Calls Try.prog 9 #[bv r.vn r.vb, bv r.pn r.pb] W (Ba.IntPost W (Ba.cm r.vn r.vb r.pn r.pb))) := fun W => Ba.cmp_any r.vn r.vb r.pn r.pb W
  have HD : ∀ W, At.Sl W W.heap.size .i64 A r.xs → At.Sl W W.heap.size .i64 A' p.xs → Hid (Calls Try.prog 8 #[rv r A c, sv p A' c'] W (VotePost W (ds r p) (db r p))) := fun W g g' => does_any r p A A' c c' W g g' (by have := fw_le hf; omega) (by have := of_decide_eq_true hg; omega)
  have HE : ∀ W, Hid (Calls Try.prog 9 #[bv p.x p.y, bv r.pn r.pb] W (Ba.IntPost W (Ba.cm p.x p.y r.pn r.pb))) := fun W => Ba.cmp_any p.x p.y r.pn r.pb W
  have hst : db r p = false ∧ ds r p = r := late_stays (by omega) (by omega) (.inr (.inl (by simpa using hn)))
  rw [hst.1, hst.2] at HD
  clear hst
  have HS : ∀ W A9 c9, At.Sl W W.heap.size .i64 A9 r.xs → At.Sl W W.heap.size .i64 A r.xs → Hid (Calls Try.prog 10 #[rv r A9 c9, rv r A c] W (BoolPost W true)) := fun W A9 c9 g g' => by
    have := same_any r r A9 A c9 c W g g' (by have := fw_le hf; omega) (by have := fw_le hf; omega)
    rw [sm_self] at this
    exact this
  generalize Ba.cm r.vn r.vb r.pn r.pb = m1 at *
  generalize Ba.cm p.x p.y r.pn r.pb = m2 at *
  clear hf hg
  have X0 : Rx ((w.alloc (.cells (rcs r A c) 32)).alloc (.cells (scs p A' c') 35)) (w.heap.size) r A c := by
    have h0 := rx_new w r A c
    exact (h0.old _)
  have P0 : Sb ((w.alloc (.cells (rcs r A c) 32)).alloc (.cells (scs p A' c') 35)) (w.heap.size + 1) p A' c' := by
    have h0 := sb_new (w.alloc (.cells (rcs r A c) 32)) p A' c'
    rw [show (w.alloc (.cells (rcs r A c) 32)).heap.size = w.heap.size + 1 by simp] at h0
    exact h0
  have B0 : Below w.heap.size w ((w.alloc (.cells (rcs r A c) 32)).alloc (.cells (scs p A' c') 35)) := (((Below.refl _ _).alloc (Nat.le_refl _) _).alloc (by first | (simp; done) | (simp; omega)) _)
  have S0 := hs.to B0 B0.size
  have T0 := hs'.to B0 B0.size
  go_enter Try.func5, Try.ntmps5
  go_wp2_with fail
  generalize ((w.alloc (.cells (rcs r A c) 32)).alloc (.cells (scs p A' c') 35)) = W0 at *
  clear hs hs'
  refine (HA _).out.mono ?_
  rintro e w1 ⟨rfl, b1⟩
  have B1 := B0.trans (b1.mono B0.size)
  have X1 := X0.on b1 X0.lt
  have P1 := P0.on b1 P0.lt
  have S1 := S0.up b1
  have T1 := T0.up b1
  clear b1 B0 X0 P0 S0 T0
  obtain ⟨p0, p1, p2, p3, p4, p5, p6, p7, p8, p9, p10, p11, p12⟩ := id X1.rb
  obtain ⟨q0, q1, q2, q3, q4, q5, q6, q7, q8, q9, q10⟩ := id P1
  go_wp2_with fail
  clear p0 p1 p2 p3 p4 p5 p6 p7 p8 p9 p10 p11 p12 q0 q1 q2 q3 q4 q5 q6 q7 q8 q9 q10
  refine (HF _).out.mono ?_
  rintro e w2 ⟨rfl, b2⟩
  have B2 := B1.trans (b2.mono B1.size)
  have X2 := X1.on b2 X1.lt
  have P2 := P1.on b2 P1.lt
  have S2 := S1.up b2
  have T2 := T1.up b2
  clear b2 B1 X1 P1 S1 T1
  obtain ⟨p0, p1, p2, p3, p4, p5, p6, p7, p8, p9, p10, p11, p12⟩ := id X2.rb
  obtain ⟨q0, q1, q2, q3, q4, q5, q6, q7, q8, q9, q10⟩ := id P2
  go_wp2_with fail
  clear p0 p1 p2 p3 p4 p5 p6 p7 p8 p9 p10 p11 p12 q0 q1 q2 q3 q4 q5 q6 q7 q8 q9 q10
  refine (HG _).out.mono ?_
  rintro e w3 ⟨rfl, b3⟩
  have B3 := B2.trans (b3.mono B2.size)
  have X3 := X2.on b3 X2.lt
  have P3 := P2.on b3 P2.lt
  have S3 := S2.up b3
  have T3 := T2.up b3
  clear b3 B2 X2 P2 S2 T2
  obtain ⟨p0, p1, p2, p3, p4, p5, p6, p7, p8, p9, p10, p11, p12⟩ := id X3.rb
  obtain ⟨q0, q1, q2, q3, q4, q5, q6, q7, q8, q9, q10⟩ := id P3
  go_wp2_with fail
  clear p0 p1 p2 p3 p4 p5 p6 p7 p8 p9 p10 p11 p12 q0 q1 q2 q3 q4 q5 q6 q7 q8 q9 q10
  refine (HC _).out.mono ?_
  rintro e w4 ⟨rfl, b4⟩
  have B4 := B3.trans (b4.mono B3.size)
  have X4 := X3.on b4 X3.lt
  have P4 := P3.on b4 P3.lt
  have S4 := S3.up b4
  have T4 := T3.up b4
  clear b4 B3 X3 P3 S3 T3
  obtain ⟨p0, p1, p2, p3, p4, p5, p6, p7, p8, p9, p10, p11, p12⟩ := id X4.rb
  obtain ⟨q0, q1, q2, q3, q4, q5, q6, q7, q8, q9, q10⟩ := id P4
  go_wp2_with fail
  clear p0 p1 p2 p3 p4 p5 p6 p7 p8 p9 p10 p11 p12 q0 q1 q2 q3 q4 q5 q6 q7 q8 q9 q10
  refine (HD _ S4 T4).out.mono ?_
  rintro e w5 ⟨A9, c9, rfl, f5, b5⟩
  have B5 := B4.trans (b5.mono B4.size)
  have X5 := X4.on b5 X4.lt
  have P5 := P4.on b5 P4.lt
  have S5 := S4.up b5
  have T5 := T4.up b5
  clear b5 B4 X4 P4 S4 T4
  obtain ⟨p0, p1, p2, p3, p4, p5, p6, p7, p8, p9, p10, p11, p12⟩ := id X5.rb
  obtain ⟨q0, q1, q2, q3, q4, q5, q6, q7, q8, q9, q10⟩ := id P5
  have xl5 := X5.lt
  have pl5 := P5.lt
  go_wp2_with fail
  clear p0 p1 p2 p3 p4 p5 p6 p7 p8 p9 p10 p11 p12 q0 q1 q2 q3 q4 q5 q6 q7 q8 q9 q10
  have B6 := B5.alloc B5.size (.cells (rcs r A9 c9) 32)
  have X6 := X5.old (.cells (rcs r A9 c9) 32)
  have P6 := P5.old (.cells (rcs r A9 c9) 32)
  have a6 : Below w5.heap.size w5 (w5.alloc (.cells (rcs r A9 c9) 32)) := (Below.refl _ _).alloc (Nat.le_refl _) _
  have S6 := S5.up a6
  have T6 := T5.up a6
  have O6 : Rx (w5.alloc (.cells (rcs r A9 c9) 32)) w5.heap.size r A9 c9 := rx_new w5 r A9 c9
  have U6 := (f5.on a6).sl
  clear B5 X5 P5 S5 T5 a6 f5
  generalize (w5.alloc (.cells (rcs r A9 c9) 32)) = V6 at *
  refine (HE _).out.mono ?_
  rintro e w7 ⟨rfl, b7⟩
  have O7 := O6.on b7 O6.lt
  have U7 := U6.up b7
  obtain ⟨o0, o1, o2, o3, o4, o5, o6, o7, o8, o9, o10, o11, o12⟩ := id O7.rb
  have B7 := B6.trans (b7.mono B6.size)
  have X7 := X6.on b7 X6.lt
  have P7 := P6.on b7 P6.lt
  have S7 := S6.up b7
  have T7 := T6.up b7
  clear b7 B6 X6 P6 S6 T6
  obtain ⟨p0, p1, p2, p3, p4, p5, p6, p7, p8, p9, p10, p11, p12⟩ := id X7.rb
  obtain ⟨q0, q1, q2, q3, q4, q5, q6, q7, q8, q9, q10⟩ := id P7
  go_wp2_with fail
  refine (HS _ A9 c9 U7 S7).out.mono ?_
  rintro e w8 ⟨rfl, b8⟩
  have B8 := B7.trans (b8.mono B7.size)
  go_wp2
  go_ret
  exact ⟨rfl, B8⟩

set_option maxHeartbeats 4000000 in
theorem late_com (r : Rd) (p : Sd) (A A' : Option Addr) (c c' : Nat) (w : World) (hs : At.Sl w w.heap.size .i64 A r.xs) (hs' : At.Sl w w.heap.size .i64 A' p.xs) (hf : fw r = true) (hg : decide ((p.xs.length : Int) ≤ 50) = true) (h0 : ¬ p.g < 0) (h2 : ¬ 2 < p.g) (hm : ¬ 0 < Ba.cm r.vn r.vb r.pn r.pb) (hl : ¬ Ba.cm p.x p.y r.pn r.pb < 0) (hn : ((p.x == 0) && (p.y == 0)) = false) (h3 : (r.st == 3) = true) : Calls Try.prog 5 #[rv r A c, sv p A' c'] w (UpPost w) := by
  have HA : ∀ W, Hid (Calls Try.prog 6 #[] W (UpPost W)) := fun W => awake_any W
  have HF : ∀ W, Hid (Calls Try.prog 11 #[rv r A c] W (BoolPost W (fw r))) := fun W => few9_any r A c W
  have HG : ∀ W, Hid (Calls Try.prog 7 #[av p.q A' p.xs.length c'] W (At.BoolPost W (decide ((p.xs.length : Int) ≤ 50)))) := fun W => At.few_any p.q A' p.xs.length c' W
  rw [hf] at HF
  rw [hg] at HG
  have HC : ∀ W, Hid (Calls Try.prog 9 #[bv r.vn r.vb, bv r.pn r.pb] W (Ba.IntPost W (Ba.cm r.vn r.vb r.pn r.pb))) := fun W => Ba.cmp_any r.vn r.vb r.pn r.pb W
  have HD : ∀ W, At.Sl W W.heap.size .i64 A r.xs → At.Sl W W.heap.size .i64 A' p.xs → Hid (Calls Try.prog 8 #[rv r A c, sv p A' c'] W (VotePost W (ds r p) (db r p))) := fun W g g' => does_any r p A A' c c' W g g' (by have := fw_le hf; omega) (by have := of_decide_eq_true hg; omega)
  have HE : ∀ W, Hid (Calls Try.prog 9 #[bv p.x p.y, bv r.pn r.pb] W (Ba.IntPost W (Ba.cm p.x p.y r.pn r.pb))) := fun W => Ba.cmp_any p.x p.y r.pn r.pb W
  have hst : db r p = false ∧ ds r p = r := late_stays (by omega) (by omega) (.inr (.inr (by simpa using h3)))
  rw [hst.1, hst.2] at HD
  clear hst
  have HS : ∀ W A9 c9, At.Sl W W.heap.size .i64 A9 r.xs → At.Sl W W.heap.size .i64 A r.xs → Hid (Calls Try.prog 10 #[rv r A9 c9, rv r A c] W (BoolPost W true)) := fun W A9 c9 g g' => by
    have := same_any r r A9 A c9 c W g g' (by have := fw_le hf; omega) (by have := fw_le hf; omega)
    rw [sm_self] at this
    exact this
  generalize Ba.cm r.vn r.vb r.pn r.pb = m1 at *
  generalize Ba.cm p.x p.y r.pn r.pb = m2 at *
  clear hf hg
  have X0 : Rx ((w.alloc (.cells (rcs r A c) 32)).alloc (.cells (scs p A' c') 35)) (w.heap.size) r A c := by
    have h0 := rx_new w r A c
    exact (h0.old _)
  have P0 : Sb ((w.alloc (.cells (rcs r A c) 32)).alloc (.cells (scs p A' c') 35)) (w.heap.size + 1) p A' c' := by
    have h0 := sb_new (w.alloc (.cells (rcs r A c) 32)) p A' c'
    rw [show (w.alloc (.cells (rcs r A c) 32)).heap.size = w.heap.size + 1 by simp] at h0
    exact h0
  have B0 : Below w.heap.size w ((w.alloc (.cells (rcs r A c) 32)).alloc (.cells (scs p A' c') 35)) := (((Below.refl _ _).alloc (Nat.le_refl _) _).alloc (by first | (simp; done) | (simp; omega)) _)
  have S0 := hs.to B0 B0.size
  have T0 := hs'.to B0 B0.size
  go_enter Try.func5, Try.ntmps5
  go_wp2_with fail
  generalize ((w.alloc (.cells (rcs r A c) 32)).alloc (.cells (scs p A' c') 35)) = W0 at *
  clear hs hs'
  refine (HA _).out.mono ?_
  rintro e w1 ⟨rfl, b1⟩
  have B1 := B0.trans (b1.mono B0.size)
  have X1 := X0.on b1 X0.lt
  have P1 := P0.on b1 P0.lt
  have S1 := S0.up b1
  have T1 := T0.up b1
  clear b1 B0 X0 P0 S0 T0
  obtain ⟨p0, p1, p2, p3, p4, p5, p6, p7, p8, p9, p10, p11, p12⟩ := id X1.rb
  obtain ⟨q0, q1, q2, q3, q4, q5, q6, q7, q8, q9, q10⟩ := id P1
  go_wp2_with fail
  clear p0 p1 p2 p3 p4 p5 p6 p7 p8 p9 p10 p11 p12 q0 q1 q2 q3 q4 q5 q6 q7 q8 q9 q10
  refine (HF _).out.mono ?_
  rintro e w2 ⟨rfl, b2⟩
  have B2 := B1.trans (b2.mono B1.size)
  have X2 := X1.on b2 X1.lt
  have P2 := P1.on b2 P1.lt
  have S2 := S1.up b2
  have T2 := T1.up b2
  clear b2 B1 X1 P1 S1 T1
  obtain ⟨p0, p1, p2, p3, p4, p5, p6, p7, p8, p9, p10, p11, p12⟩ := id X2.rb
  obtain ⟨q0, q1, q2, q3, q4, q5, q6, q7, q8, q9, q10⟩ := id P2
  go_wp2_with fail
  clear p0 p1 p2 p3 p4 p5 p6 p7 p8 p9 p10 p11 p12 q0 q1 q2 q3 q4 q5 q6 q7 q8 q9 q10
  refine (HG _).out.mono ?_
  rintro e w3 ⟨rfl, b3⟩
  have B3 := B2.trans (b3.mono B2.size)
  have X3 := X2.on b3 X2.lt
  have P3 := P2.on b3 P2.lt
  have S3 := S2.up b3
  have T3 := T2.up b3
  clear b3 B2 X2 P2 S2 T2
  obtain ⟨p0, p1, p2, p3, p4, p5, p6, p7, p8, p9, p10, p11, p12⟩ := id X3.rb
  obtain ⟨q0, q1, q2, q3, q4, q5, q6, q7, q8, q9, q10⟩ := id P3
  go_wp2_with fail
  clear p0 p1 p2 p3 p4 p5 p6 p7 p8 p9 p10 p11 p12 q0 q1 q2 q3 q4 q5 q6 q7 q8 q9 q10
  refine (HC _).out.mono ?_
  rintro e w4 ⟨rfl, b4⟩
  have B4 := B3.trans (b4.mono B3.size)
  have X4 := X3.on b4 X3.lt
  have P4 := P3.on b4 P3.lt
  have S4 := S3.up b4
  have T4 := T3.up b4
  clear b4 B3 X3 P3 S3 T3
  obtain ⟨p0, p1, p2, p3, p4, p5, p6, p7, p8, p9, p10, p11, p12⟩ := id X4.rb
  obtain ⟨q0, q1, q2, q3, q4, q5, q6, q7, q8, q9, q10⟩ := id P4
  go_wp2_with fail
  clear p0 p1 p2 p3 p4 p5 p6 p7 p8 p9 p10 p11 p12 q0 q1 q2 q3 q4 q5 q6 q7 q8 q9 q10
  refine (HD _ S4 T4).out.mono ?_
  rintro e w5 ⟨A9, c9, rfl, f5, b5⟩
  have B5 := B4.trans (b5.mono B4.size)
  have X5 := X4.on b5 X4.lt
  have P5 := P4.on b5 P4.lt
  have S5 := S4.up b5
  have T5 := T4.up b5
  clear b5 B4 X4 P4 S4 T4
  obtain ⟨p0, p1, p2, p3, p4, p5, p6, p7, p8, p9, p10, p11, p12⟩ := id X5.rb
  obtain ⟨q0, q1, q2, q3, q4, q5, q6, q7, q8, q9, q10⟩ := id P5
  have xl5 := X5.lt
  have pl5 := P5.lt
  go_wp2_with fail
  clear p0 p1 p2 p3 p4 p5 p6 p7 p8 p9 p10 p11 p12 q0 q1 q2 q3 q4 q5 q6 q7 q8 q9 q10
  have B6 := B5.alloc B5.size (.cells (rcs r A9 c9) 32)
  have X6 := X5.old (.cells (rcs r A9 c9) 32)
  have P6 := P5.old (.cells (rcs r A9 c9) 32)
  have a6 : Below w5.heap.size w5 (w5.alloc (.cells (rcs r A9 c9) 32)) := (Below.refl _ _).alloc (Nat.le_refl _) _
  have S6 := S5.up a6
  have T6 := T5.up a6
  have O6 : Rx (w5.alloc (.cells (rcs r A9 c9) 32)) w5.heap.size r A9 c9 := rx_new w5 r A9 c9
  have U6 := (f5.on a6).sl
  clear B5 X5 P5 S5 T5 a6 f5
  generalize (w5.alloc (.cells (rcs r A9 c9) 32)) = V6 at *
  refine (HE _).out.mono ?_
  rintro e w7 ⟨rfl, b7⟩
  have O7 := O6.on b7 O6.lt
  have U7 := U6.up b7
  obtain ⟨o0, o1, o2, o3, o4, o5, o6, o7, o8, o9, o10, o11, o12⟩ := id O7.rb
  have B7 := B6.trans (b7.mono B6.size)
  have X7 := X6.on b7 X6.lt
  have P7 := P6.on b7 P6.lt
  have S7 := S6.up b7
  have T7 := T6.up b7
  clear b7 B6 X6 P6 S6 T6
  obtain ⟨p0, p1, p2, p3, p4, p5, p6, p7, p8, p9, p10, p11, p12⟩ := id X7.rb
  obtain ⟨q0, q1, q2, q3, q4, q5, q6, q7, q8, q9, q10⟩ := id P7
  go_wp2_with fail
  refine (HS _ A9 c9 U7 S7).out.mono ?_
  rintro e w8 ⟨rfl, b8⟩
  have B8 := B7.trans (b8.mono B7.size)
  go_wp2
  go_ret
  exact ⟨rfl, B8⟩

set_option maxHeartbeats 4000000 in
theorem late_no (r : Rd) (p : Sd) (A A' : Option Addr) (c c' : Nat) (w : World) (hs : At.Sl w w.heap.size .i64 A r.xs) (hs' : At.Sl w w.heap.size .i64 A' p.xs) (hf : fw r = true) (hg : decide ((p.xs.length : Int) ≤ 50) = true) (h0 : ¬ p.g < 0) (h2 : ¬ 2 < p.g) (hm : ¬ 0 < Ba.cm r.vn r.vb r.pn r.pb) (hl : ¬ Ba.cm p.x p.y r.pn r.pb < 0) (hn : ((p.x == 0) && (p.y == 0)) = false) (h3 : (r.st == 3) = false) (hd : db r p = false) : Calls Try.prog 5 #[rv r A c, sv p A' c'] w (UpPost w) := by
  have HA : ∀ W, Hid (Calls Try.prog 6 #[] W (UpPost W)) := fun W => awake_any W
  have HF : ∀ W, Hid (Calls Try.prog 11 #[rv r A c] W (BoolPost W (fw r))) := fun W => few9_any r A c W
  have HG : ∀ W, Hid (Calls Try.prog 7 #[av p.q A' p.xs.length c'] W (At.BoolPost W (decide ((p.xs.length : Int) ≤ 50)))) := fun W => At.few_any p.q A' p.xs.length c' W
  rw [hf] at HF
  rw [hg] at HG
  have HC : ∀ W, Hid (Calls Try.prog 9 #[bv r.vn r.vb, bv r.pn r.pb] W (Ba.IntPost W (Ba.cm r.vn r.vb r.pn r.pb))) := fun W => Ba.cmp_any r.vn r.vb r.pn r.pb W
  have HD : ∀ W, At.Sl W W.heap.size .i64 A r.xs → At.Sl W W.heap.size .i64 A' p.xs → Hid (Calls Try.prog 8 #[rv r A c, sv p A' c'] W (VotePost W (ds r p) (db r p))) := fun W g g' => does_any r p A A' c c' W g g' (by have := fw_le hf; omega) (by have := of_decide_eq_true hg; omega)
  have HE : ∀ W, Hid (Calls Try.prog 9 #[bv p.x p.y, bv r.pn r.pb] W (Ba.IntPost W (Ba.cm p.x p.y r.pn r.pb))) := fun W => Ba.cmp_any p.x p.y r.pn r.pb W
  rw [hd] at HD
  clear hd
  generalize ds r p = o at *
  generalize Ba.cm r.vn r.vb r.pn r.pb = m1 at *
  generalize Ba.cm p.x p.y r.pn r.pb = m2 at *
  clear hf hg
  have X0 : Rx ((w.alloc (.cells (rcs r A c) 32)).alloc (.cells (scs p A' c') 35)) (w.heap.size) r A c := by
    have h0 := rx_new w r A c
    exact (h0.old _)
  have P0 : Sb ((w.alloc (.cells (rcs r A c) 32)).alloc (.cells (scs p A' c') 35)) (w.heap.size + 1) p A' c' := by
    have h0 := sb_new (w.alloc (.cells (rcs r A c) 32)) p A' c'
    rw [show (w.alloc (.cells (rcs r A c) 32)).heap.size = w.heap.size + 1 by simp] at h0
    exact h0
  have B0 : Below w.heap.size w ((w.alloc (.cells (rcs r A c) 32)).alloc (.cells (scs p A' c') 35)) := (((Below.refl _ _).alloc (Nat.le_refl _) _).alloc (by first | (simp; done) | (simp; omega)) _)
  have S0 := hs.to B0 B0.size
  have T0 := hs'.to B0 B0.size
  go_enter Try.func5, Try.ntmps5
  go_wp2_with fail
  generalize ((w.alloc (.cells (rcs r A c) 32)).alloc (.cells (scs p A' c') 35)) = W0 at *
  clear hs hs'
  refine (HA _).out.mono ?_
  rintro e w1 ⟨rfl, b1⟩
  have B1 := B0.trans (b1.mono B0.size)
  have X1 := X0.on b1 X0.lt
  have P1 := P0.on b1 P0.lt
  have S1 := S0.up b1
  have T1 := T0.up b1
  clear b1 B0 X0 P0 S0 T0
  obtain ⟨p0, p1, p2, p3, p4, p5, p6, p7, p8, p9, p10, p11, p12⟩ := id X1.rb
  obtain ⟨q0, q1, q2, q3, q4, q5, q6, q7, q8, q9, q10⟩ := id P1
  go_wp2_with fail
  clear p0 p1 p2 p3 p4 p5 p6 p7 p8 p9 p10 p11 p12 q0 q1 q2 q3 q4 q5 q6 q7 q8 q9 q10
  refine (HF _).out.mono ?_
  rintro e w2 ⟨rfl, b2⟩
  have B2 := B1.trans (b2.mono B1.size)
  have X2 := X1.on b2 X1.lt
  have P2 := P1.on b2 P1.lt
  have S2 := S1.up b2
  have T2 := T1.up b2
  clear b2 B1 X1 P1 S1 T1
  obtain ⟨p0, p1, p2, p3, p4, p5, p6, p7, p8, p9, p10, p11, p12⟩ := id X2.rb
  obtain ⟨q0, q1, q2, q3, q4, q5, q6, q7, q8, q9, q10⟩ := id P2
  go_wp2_with fail
  clear p0 p1 p2 p3 p4 p5 p6 p7 p8 p9 p10 p11 p12 q0 q1 q2 q3 q4 q5 q6 q7 q8 q9 q10
  refine (HG _).out.mono ?_
  rintro e w3 ⟨rfl, b3⟩
  have B3 := B2.trans (b3.mono B2.size)
  have X3 := X2.on b3 X2.lt
  have P3 := P2.on b3 P2.lt
  have S3 := S2.up b3
  have T3 := T2.up b3
  clear b3 B2 X2 P2 S2 T2
  obtain ⟨p0, p1, p2, p3, p4, p5, p6, p7, p8, p9, p10, p11, p12⟩ := id X3.rb
  obtain ⟨q0, q1, q2, q3, q4, q5, q6, q7, q8, q9, q10⟩ := id P3
  go_wp2_with fail
  clear p0 p1 p2 p3 p4 p5 p6 p7 p8 p9 p10 p11 p12 q0 q1 q2 q3 q4 q5 q6 q7 q8 q9 q10
  refine (HC _).out.mono ?_
  rintro e w4 ⟨rfl, b4⟩
  have B4 := B3.trans (b4.mono B3.size)
  have X4 := X3.on b4 X3.lt
  have P4 := P3.on b4 P3.lt
  have S4 := S3.up b4
  have T4 := T3.up b4
  clear b4 B3 X3 P3 S3 T3
  obtain ⟨p0, p1, p2, p3, p4, p5, p6, p7, p8, p9, p10, p11, p12⟩ := id X4.rb
  obtain ⟨q0, q1, q2, q3, q4, q5, q6, q7, q8, q9, q10⟩ := id P4
  go_wp2_with fail
  clear p0 p1 p2 p3 p4 p5 p6 p7 p8 p9 p10 p11 p12 q0 q1 q2 q3 q4 q5 q6 q7 q8 q9 q10
  refine (HD _ S4 T4).out.mono ?_
  rintro e w5 ⟨A9, c9, rfl, f5, b5⟩
  have B5 := B4.trans (b5.mono B4.size)
  have X5 := X4.on b5 X4.lt
  have P5 := P4.on b5 P4.lt
  have S5 := S4.up b5
  have T5 := T4.up b5
  clear b5 B4 X4 P4 S4 T4
  obtain ⟨p0, p1, p2, p3, p4, p5, p6, p7, p8, p9, p10, p11, p12⟩ := id X5.rb
  obtain ⟨q0, q1, q2, q3, q4, q5, q6, q7, q8, q9, q10⟩ := id P5
  have xl5 := X5.lt
  have pl5 := P5.lt
  go_wp2_with fail
  clear p0 p1 p2 p3 p4 p5 p6 p7 p8 p9 p10 p11 p12 q0 q1 q2 q3 q4 q5 q6 q7 q8 q9 q10
  have B6 := B5.alloc B5.size (.cells (rcs o A9 c9) 32)
  have X6 := X5.old (.cells (rcs o A9 c9) 32)
  have P6 := P5.old (.cells (rcs o A9 c9) 32)
  have a6 : Below w5.heap.size w5 (w5.alloc (.cells (rcs o A9 c9) 32)) := (Below.refl _ _).alloc (Nat.le_refl _) _
  have S6 := S5.up a6
  have T6 := T5.up a6
  have O6 : Rx (w5.alloc (.cells (rcs o A9 c9) 32)) w5.heap.size o A9 c9 := rx_new w5 o A9 c9
  have U6 := (f5.on a6).sl
  clear B5 X5 P5 S5 T5 a6 f5
  generalize (w5.alloc (.cells (rcs o A9 c9) 32)) = V6 at *
  refine (HE _).out.mono ?_
  rintro e w7 ⟨rfl, b7⟩
  have O7 := O6.on b7 O6.lt
  have U7 := U6.up b7
  obtain ⟨o0, o1, o2, o3, o4, o5, o6, o7, o8, o9, o10, o11, o12⟩ := id O7.rb
  have B7 := B6.trans (b7.mono B6.size)
  have X7 := X6.on b7 X6.lt
  have P7 := P6.on b7 P6.lt
  have S7 := S6.up b7
  have T7 := T6.up b7
  clear b7 B6 X6 P6 S6 T6
  obtain ⟨p0, p1, p2, p3, p4, p5, p6, p7, p8, p9, p10, p11, p12⟩ := id X7.rb
  obtain ⟨q0, q1, q2, q3, q4, q5, q6, q7, q8, q9, q10⟩ := id P7
  go_wp2
  go_ret
  exact ⟨rfl, B7⟩

set_option maxHeartbeats 4000000 in
theorem late_go (r : Rd) (p : Sd) (A A' : Option Addr) (c c' : Nat) (w : World) (hs : At.Sl w w.heap.size .i64 A r.xs) (hs' : At.Sl w w.heap.size .i64 A' p.xs) (hf : fw r = true) (hg : decide ((p.xs.length : Int) ≤ 50) = true) (h0 : ¬ p.g < 0) (h2 : ¬ 2 < p.g) (hm : ¬ 0 < Ba.cm r.vn r.vb r.pn r.pb) (hl : ¬ Ba.cm p.x p.y r.pn r.pb < 0) (hn : ((p.x == 0) && (p.y == 0)) = false) (h3 : (r.st == 3) = false) (hd : db r p = true) : Calls Try.prog 5 #[rv r A c, sv p A' c'] w (UpPost w) := by
  have HA : ∀ W, Hid (Calls Try.prog 6 #[] W (UpPost W)) := fun W => awake_any W
  have HF : ∀ W, Hid (Calls Try.prog 11 #[rv r A c] W (BoolPost W (fw r))) := fun W => few9_any r A c W
  have HG : ∀ W, Hid (Calls Try.prog 7 #[av p.q A' p.xs.length c'] W (At.BoolPost W (decide ((p.xs.length : Int) ≤ 50)))) := fun W => At.few_any p.q A' p.xs.length c' W
  rw [hf] at HF
  rw [hg] at HG
  have HC : ∀ W, Hid (Calls Try.prog 9 #[bv r.vn r.vb, bv r.pn r.pb] W (Ba.IntPost W (Ba.cm r.vn r.vb r.pn r.pb))) := fun W => Ba.cmp_any r.vn r.vb r.pn r.pb W
  have HD : ∀ W, At.Sl W W.heap.size .i64 A r.xs → At.Sl W W.heap.size .i64 A' p.xs → Hid (Calls Try.prog 8 #[rv r A c, sv p A' c'] W (VotePost W (ds r p) (db r p))) := fun W g g' => does_any r p A A' c c' W g g' (by have := fw_le hf; omega) (by have := of_decide_eq_true hg; omega)
  have HE : ∀ W, Hid (Calls Try.prog 9 #[bv p.x p.y, bv r.pn r.pb] W (Ba.IntPost W (Ba.cm p.x p.y r.pn r.pb))) := fun W => Ba.cmp_any p.x p.y r.pn r.pb W
  rw [hd] at HD
  have he := late_else (r := r) (p := p) (by omega) (by omega) hm hd
  clear hd
  generalize ds r p = o at *
  generalize Ba.cm r.vn r.vb r.pn r.pb = m1 at *
  generalize Ba.cm p.x p.y r.pn r.pb = m2 at *
  clear hf hg
  have X0 : Rx ((w.alloc (.cells (rcs r A c) 32)).alloc (.cells (scs p A' c') 35)) (w.heap.size) r A c := by
    have h0 := rx_new w r A c
    exact (h0.old _)
  have P0 : Sb ((w.alloc (.cells (rcs r A c) 32)).alloc (.cells (scs p A' c') 35)) (w.heap.size + 1) p A' c' := by
    have h0 := sb_new (w.alloc (.cells (rcs r A c) 32)) p A' c'
    rw [show (w.alloc (.cells (rcs r A c) 32)).heap.size = w.heap.size + 1 by simp] at h0
    exact h0
  have B0 : Below w.heap.size w ((w.alloc (.cells (rcs r A c) 32)).alloc (.cells (scs p A' c') 35)) := (((Below.refl _ _).alloc (Nat.le_refl _) _).alloc (by first | (simp; done) | (simp; omega)) _)
  have S0 := hs.to B0 B0.size
  have T0 := hs'.to B0 B0.size
  go_enter Try.func5, Try.ntmps5
  go_wp2_with fail
  generalize ((w.alloc (.cells (rcs r A c) 32)).alloc (.cells (scs p A' c') 35)) = W0 at *
  clear hs hs'
  refine (HA _).out.mono ?_
  rintro e w1 ⟨rfl, b1⟩
  have B1 := B0.trans (b1.mono B0.size)
  have X1 := X0.on b1 X0.lt
  have P1 := P0.on b1 P0.lt
  have S1 := S0.up b1
  have T1 := T0.up b1
  clear b1 B0 X0 P0 S0 T0
  obtain ⟨p0, p1, p2, p3, p4, p5, p6, p7, p8, p9, p10, p11, p12⟩ := id X1.rb
  obtain ⟨q0, q1, q2, q3, q4, q5, q6, q7, q8, q9, q10⟩ := id P1
  go_wp2_with fail
  clear p0 p1 p2 p3 p4 p5 p6 p7 p8 p9 p10 p11 p12 q0 q1 q2 q3 q4 q5 q6 q7 q8 q9 q10
  refine (HF _).out.mono ?_
  rintro e w2 ⟨rfl, b2⟩
  have B2 := B1.trans (b2.mono B1.size)
  have X2 := X1.on b2 X1.lt
  have P2 := P1.on b2 P1.lt
  have S2 := S1.up b2
  have T2 := T1.up b2
  clear b2 B1 X1 P1 S1 T1
  obtain ⟨p0, p1, p2, p3, p4, p5, p6, p7, p8, p9, p10, p11, p12⟩ := id X2.rb
  obtain ⟨q0, q1, q2, q3, q4, q5, q6, q7, q8, q9, q10⟩ := id P2
  go_wp2_with fail
  clear p0 p1 p2 p3 p4 p5 p6 p7 p8 p9 p10 p11 p12 q0 q1 q2 q3 q4 q5 q6 q7 q8 q9 q10
  refine (HG _).out.mono ?_
  rintro e w3 ⟨rfl, b3⟩
  have B3 := B2.trans (b3.mono B2.size)
  have X3 := X2.on b3 X2.lt
  have P3 := P2.on b3 P2.lt
  have S3 := S2.up b3
  have T3 := T2.up b3
  clear b3 B2 X2 P2 S2 T2
  obtain ⟨p0, p1, p2, p3, p4, p5, p6, p7, p8, p9, p10, p11, p12⟩ := id X3.rb
  obtain ⟨q0, q1, q2, q3, q4, q5, q6, q7, q8, q9, q10⟩ := id P3
  go_wp2_with fail
  clear p0 p1 p2 p3 p4 p5 p6 p7 p8 p9 p10 p11 p12 q0 q1 q2 q3 q4 q5 q6 q7 q8 q9 q10
  refine (HC _).out.mono ?_
  rintro e w4 ⟨rfl, b4⟩
  have B4 := B3.trans (b4.mono B3.size)
  have X4 := X3.on b4 X3.lt
  have P4 := P3.on b4 P3.lt
  have S4 := S3.up b4
  have T4 := T3.up b4
  clear b4 B3 X3 P3 S3 T3
  obtain ⟨p0, p1, p2, p3, p4, p5, p6, p7, p8, p9, p10, p11, p12⟩ := id X4.rb
  obtain ⟨q0, q1, q2, q3, q4, q5, q6, q7, q8, q9, q10⟩ := id P4
  go_wp2_with fail
  clear p0 p1 p2 p3 p4 p5 p6 p7 p8 p9 p10 p11 p12 q0 q1 q2 q3 q4 q5 q6 q7 q8 q9 q10
  refine (HD _ S4 T4).out.mono ?_
  rintro e w5 ⟨A9, c9, rfl, f5, b5⟩
  have B5 := B4.trans (b5.mono B4.size)
  have X5 := X4.on b5 X4.lt
  have P5 := P4.on b5 P4.lt
  have S5 := S4.up b5
  have T5 := T4.up b5
  clear b5 B4 X4 P4 S4 T4
  obtain ⟨p0, p1, p2, p3, p4, p5, p6, p7, p8, p9, p10, p11, p12⟩ := id X5.rb
  obtain ⟨q0, q1, q2, q3, q4, q5, q6, q7, q8, q9, q10⟩ := id P5
  have xl5 := X5.lt
  have pl5 := P5.lt
  go_wp2_with fail
  clear p0 p1 p2 p3 p4 p5 p6 p7 p8 p9 p10 p11 p12 q0 q1 q2 q3 q4 q5 q6 q7 q8 q9 q10
  have B6 := B5.alloc B5.size (.cells (rcs o A9 c9) 32)
  have X6 := X5.old (.cells (rcs o A9 c9) 32)
  have P6 := P5.old (.cells (rcs o A9 c9) 32)
  have a6 : Below w5.heap.size w5 (w5.alloc (.cells (rcs o A9 c9) 32)) := (Below.refl _ _).alloc (Nat.le_refl _) _
  have S6 := S5.up a6
  have T6 := T5.up a6
  have O6 : Rx (w5.alloc (.cells (rcs o A9 c9) 32)) w5.heap.size o A9 c9 := rx_new w5 o A9 c9
  have U6 := (f5.on a6).sl
  clear B5 X5 P5 S5 T5 a6 f5
  generalize (w5.alloc (.cells (rcs o A9 c9) 32)) = V6 at *
  refine (HE _).out.mono ?_
  rintro e w7 ⟨rfl, b7⟩
  have O7 := O6.on b7 O6.lt
  have U7 := U6.up b7
  obtain ⟨o0, o1, o2, o3, o4, o5, o6, o7, o8, o9, o10, o11, o12⟩ := id O7.rb
  have B7 := B6.trans (b7.mono B6.size)
  have X7 := X6.on b7 X6.lt
  have P7 := P6.on b7 P6.lt
  have S7 := S6.up b7
  have T7 := T6.up b7
  clear b7 B6 X6 P6 S6 T6
  obtain ⟨p0, p1, p2, p3, p4, p5, p6, p7, p8, p9, p10, p11, p12⟩ := id X7.rb
  obtain ⟨q0, q1, q2, q3, q4, q5, q6, q7, q8, q9, q10⟩ := id P7
  go_wp2
  go_ret
  exact ⟨rfl, B7⟩

theorem late_any (r : Rd) (p : Sd) (A A' : Option Addr) (c c' : Nat) (w : World) (hs : At.Sl w w.heap.size .i64 A r.xs) (hs' : At.Sl w w.heap.size .i64 A' p.xs) : Calls Try.prog 5 #[rv r A c, sv p A' c'] w (UpPost w) := by
  rcases hf : fw r with _ | _
  · exact late_a r p A A' c c' w hs hs' hf
  rcases hg : decide ((p.xs.length : Int) ≤ 50) with _ | _
  · exact late_b r p A A' c c' w hs hs' hf hg
  by_cases h0 : p.g < 0
  · exact late_c r p A A' c c' w hs hs' hf hg h0
  by_cases h2 : 2 < p.g
  · exact late_d r p A A' c c' w hs hs' hf hg h0 h2
  by_cases hm : 0 < Ba.cm r.vn r.vb r.pn r.pb
  · exact late_e r p A A' c c' w hs hs' hf hg h0 h2 hm
  by_cases hl : Ba.cm p.x p.y r.pn r.pb < 0
  · exact late_less r p A A' c c' w hs hs' hf hg h0 h2 hm hl _ rfl
  rcases hn : ((p.x == 0) && (p.y == 0)) with _ | _
  · rcases h3 : (r.st == 3) with _ | _
    · rcases hd : db r p with _ | _
      · exact late_no r p A A' c c' w hs hs' hf hg h0 h2 hm hl hn h3 hd
      · exact late_go r p A A' c c' w hs hs' hf hg h0 h2 hm hl hn h3 hd
    · exact late_com r p A A' c c' w hs hs' hf hg h0 h2 hm hl hn h3
  · exact late_none r p A A' c c' w hs hs' hf hg h0 h2 hm hl hn

end Go.Proofs.Ytdeaaeejkpghaaa.In
