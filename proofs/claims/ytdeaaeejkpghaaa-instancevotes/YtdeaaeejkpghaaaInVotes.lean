/-
  The walk of the law InstanceVotes: what was voted for at a ballot stays at that ballot; what is told again changes nothing.
-/
import Derived.Test.YtdeaaeejkpghaaaInMv
namespace Go.Proofs.Ytdeaaeejkpghaaa.In
open Go.RowKit
set_option linter.unusedVariables false
attribute [local go_sem ↓ high] Ba.eq23 Ba.guard23 Ba.neq23 Ba.guard23n eqc guardc


set_option maxHeartbeats 4000000 in
theorem votes_a (r : Rd) (p o : Sd) (A A' A'' : Option Addr) (c c' c'' : Nat) (w : World) (hs : At.Sl w w.heap.size .i64 A r.xs) (hs' : At.Sl w w.heap.size .i64 A' p.xs) (hs'' : At.Sl w w.heap.size .i64 A'' o.xs) (hf : fw r = false) : Calls Try.prog 4 #[rv r A c, sv p A' c', sv o A'' c''] w (UpPost w) := by
  have HA : ∀ W, Hid (Calls Try.prog 6 #[] W (UpPost W)) := fun W => awake_any W
  have HF : ∀ W, Hid (Calls Try.prog 11 #[rv r A c] W (BoolPost W (fw r))) := fun W => few9_any r A c W
  have HG : ∀ W, Hid (Calls Try.prog 7 #[av p.q A' p.xs.length c'] W (At.BoolPost W (decide ((p.xs.length : Int) ≤ 50)))) := fun W => At.few_any p.q A' p.xs.length c' W
  have HK : ∀ W, Hid (Calls Try.prog 7 #[av o.q A'' o.xs.length c''] W (At.BoolPost W (decide ((o.xs.length : Int) ≤ 50)))) := fun W => At.few_any o.q A'' o.xs.length c'' W
  rw [hf] at HF
  generalize decide ((p.xs.length : Int) ≤ 50) = G at *
  generalize decide ((o.xs.length : Int) ≤ 50) = K at *
  have X0 : Rx (((w.alloc (.cells (rcs r A c) 32)).alloc (.cells (scs p A' c') 35)).alloc (.cells (scs o A'' c'') 35)) (w.heap.size) r A c := by
    have h0 := rx_new w r A c
    exact ((h0.old _).old _)
  have P0 : Sb (((w.alloc (.cells (rcs r A c) 32)).alloc (.cells (scs p A' c') 35)).alloc (.cells (scs o A'' c'') 35)) (w.heap.size + 1) p A' c' := by
    have h0 := sb_new (w.alloc (.cells (rcs r A c) 32)) p A' c'
    rw [show (w.alloc (.cells (rcs r A c) 32)).heap.size = w.heap.size + 1 by simp] at h0
    exact (h0.old _)
  have O0 : Sx (((w.alloc (.cells (rcs r A c) 32)).alloc (.cells (scs p A' c') 35)).alloc (.cells (scs o A'' c'') 35)) (w.heap.size + 1 + 1) o A'' c'' := by
    have h0 := sx_new ((w.alloc (.cells (rcs r A c) 32)).alloc (.cells (scs p A' c') 35)) o A'' c''
    rw [show ((w.alloc (.cells (rcs r A c) 32)).alloc (.cells (scs p A' c') 35)).heap.size = w.heap.size + 1 + 1 by simp] at h0
    exact h0
  have B0 : Below w.heap.size w (((w.alloc (.cells (rcs r A c) 32)).alloc (.cells (scs p A' c') 35)).alloc (.cells (scs o A'' c'') 35)) := ((((Below.refl _ _).alloc (Nat.le_refl _) _).alloc (by first | (simp; done) | (simp; omega)) _).alloc (by first | (simp; done) | (simp; omega)) _)
  have S0 := hs.to B0 B0.size
  have T0 := hs'.to B0 B0.size
  have U0 := hs''.to B0 B0.size
  go_enter Try.func4, Try.ntmps4
  go_wp2_with fail
  generalize (((w.alloc (.cells (rcs r A c) 32)).alloc (.cells (scs p A' c') 35)).alloc (.cells (scs o A'' c'') 35)) = W0 at *
  refine (HA _).out.mono ?_
  rintro e w1 ⟨rfl, b1⟩
  have B1 := B0.trans (b1.mono B0.size)
  have X1 := X0.on b1 X0.lt
  have P1 := P0.on b1 P0.lt
  have O1 := O0.on b1 O0.lt
  have S1 := S0.up b1
  have T1 := T0.up b1
  have U1 := U0.up b1
  clear B0 X0 P0 O0 S0 T0 U0
  clear b1
  obtain ⟨x_0, x_1, x_2, x_3, x_4, x_5, x_6, x_7, x_8, x_9, x_10, x_11, x_12⟩ := id X1.rb
  obtain ⟨p_0, p_1, p_2, p_3, p_4, p_5, p_6, p_7, p_8, p_9, p_10⟩ := id P1
  obtain ⟨o_0, o_1, o_2, o_3, o_4, o_5, o_6, o_7, o_8, o_9, o_10⟩ := id O1.sb
  go_wp2_with fail
  clear x_0 x_1 x_2 x_3 x_4 x_5 x_6 x_7 x_8 x_9 x_10 x_11 x_12 p_0 p_1 p_2 p_3 p_4 p_5 p_6 p_7 p_8 p_9 p_10 o_0 o_1 o_2 o_3 o_4 o_5 o_6 o_7 o_8 o_9 o_10
  refine (HF _).out.mono ?_
  rintro e w2 ⟨rfl, b2⟩
  have B2 := B1.trans (b2.mono B1.size)
  have X2 := X1.on b2 X1.lt
  have P2 := P1.on b2 P1.lt
  have O2 := O1.on b2 O1.lt
  have S2 := S1.up b2
  have T2 := T1.up b2
  have U2 := U1.up b2
  clear B1 X1 P1 O1 S1 T1 U1
  clear b2
  obtain ⟨x_0, x_1, x_2, x_3, x_4, x_5, x_6, x_7, x_8, x_9, x_10, x_11, x_12⟩ := id X2.rb
  obtain ⟨p_0, p_1, p_2, p_3, p_4, p_5, p_6, p_7, p_8, p_9, p_10⟩ := id P2
  obtain ⟨o_0, o_1, o_2, o_3, o_4, o_5, o_6, o_7, o_8, o_9, o_10⟩ := id O2.sb
  go_wp2_with fail
  clear x_0 x_1 x_2 x_3 x_4 x_5 x_6 x_7 x_8 x_9 x_10 x_11 x_12 p_0 p_1 p_2 p_3 p_4 p_5 p_6 p_7 p_8 p_9 p_10 o_0 o_1 o_2 o_3 o_4 o_5 o_6 o_7 o_8 o_9 o_10
  refine (HG _).out.mono ?_
  rintro e w3 ⟨rfl, b3⟩
  have B3 := B2.trans (b3.mono B2.size)
  have X3 := X2.on b3 X2.lt
  have P3 := P2.on b3 P2.lt
  have O3 := O2.on b3 O2.lt
  have S3 := S2.up b3
  have T3 := T2.up b3
  have U3 := U2.up b3
  clear B2 X2 P2 O2 S2 T2 U2
  clear b3
  obtain ⟨x_0, x_1, x_2, x_3, x_4, x_5, x_6, x_7, x_8, x_9, x_10, x_11, x_12⟩ := id X3.rb
  obtain ⟨p_0, p_1, p_2, p_3, p_4, p_5, p_6, p_7, p_8, p_9, p_10⟩ := id P3
  obtain ⟨o_0, o_1, o_2, o_3, o_4, o_5, o_6, o_7, o_8, o_9, o_10⟩ := id O3.sb
  go_wp2_with fail
  clear x_0 x_1 x_2 x_3 x_4 x_5 x_6 x_7 x_8 x_9 x_10 x_11 x_12 p_0 p_1 p_2 p_3 p_4 p_5 p_6 p_7 p_8 p_9 p_10 o_0 o_1 o_2 o_3 o_4 o_5 o_6 o_7 o_8 o_9 o_10
  refine (HK _).out.mono ?_
  rintro e w4 ⟨rfl, b4⟩
  have B4 := B3.trans (b4.mono B3.size)
  have X4 := X3.on b4 X3.lt
  have P4 := P3.on b4 P3.lt
  have O4 := O3.on b4 O3.lt
  have S4 := S3.up b4
  have T4 := T3.up b4
  have U4 := U3.up b4
  clear B3 X3 P3 O3 S3 T3 U3
  clear b4
  obtain ⟨x_0, x_1, x_2, x_3, x_4, x_5, x_6, x_7, x_8, x_9, x_10, x_11, x_12⟩ := id X4.rb
  obtain ⟨p_0, p_1, p_2, p_3, p_4, p_5, p_6, p_7, p_8, p_9, p_10⟩ := id P4
  obtain ⟨o_0, o_1, o_2, o_3, o_4, o_5, o_6, o_7, o_8, o_9, o_10⟩ := id O4.sb
  go_wp2
  go_ret
  exact ⟨rfl, B4⟩

set_option maxHeartbeats 4000000 in
theorem votes_b (r : Rd) (p o : Sd) (A A' A'' : Option Addr) (c c' c'' : Nat) (w : World) (hs : At.Sl w w.heap.size .i64 A r.xs) (hs' : At.Sl w w.heap.size .i64 A' p.xs) (hs'' : At.Sl w w.heap.size .i64 A'' o.xs) (hf : fw r = true) (hg : decide ((p.xs.length : Int) ≤ 50) = false) : Calls Try.prog 4 #[rv r A c, sv p A' c', sv o A'' c''] w (UpPost w) := by
  have HA : ∀ W, Hid (Calls Try.prog 6 #[] W (UpPost W)) := fun W => awake_any W
  have HF : ∀ W, Hid (Calls Try.prog 11 #[rv r A c] W (BoolPost W (fw r))) := fun W => few9_any r A c W
  have HG : ∀ W, Hid (Calls Try.prog 7 #[av p.q A' p.xs.length c'] W (At.BoolPost W (decide ((p.xs.length : Int) ≤ 50)))) := fun W => At.few_any p.q A' p.xs.length c' W
  have HK : ∀ W, Hid (Calls Try.prog 7 #[av o.q A'' o.xs.length c''] W (At.BoolPost W (decide ((o.xs.length : Int) ≤ 50)))) := fun W => At.few_any o.q A'' o.xs.length c'' W
  rw [hf] at HF
  rw [hg] at HG
  generalize decide ((o.xs.length : Int) ≤ 50) = K at *
  have X0 : Rx (((w.alloc (.cells (rcs r A c) 32)).alloc (.cells (scs p A' c') 35)).alloc (.cells (scs o A'' c'') 35)) (w.heap.size) r A c := by
    have h0 := rx_new w r A c
    exact ((h0.old _).old _)
  have P0 : Sb (((w.alloc (.cells (rcs r A c) 32)).alloc (.cells (scs p A' c') 35)).alloc (.cells (scs o A'' c'') 35)) (w.heap.size + 1) p A' c' := by
    have h0 := sb_new (w.alloc (.cells (rcs r A c) 32)) p A' c'
    rw [show (w.alloc (.cells (rcs r A c) 32)).heap.size = w.heap.size + 1 by simp] at h0
    exact (h0.old _)
  have O0 : Sx (((w.alloc (.cells (rcs r A c) 32)).alloc (.cells (scs p A' c') 35)).alloc (.cells (scs o A'' c'') 35)) (w.heap.size + 1 + 1) o A'' c'' := by
    have h0 := sx_new ((w.alloc (.cells (rcs r A c) 32)).alloc (.cells (scs p A' c') 35)) o A'' c''
    rw [show ((w.alloc (.cells (rcs r A c) 32)).alloc (.cells (scs p A' c') 35)).heap.size = w.heap.size + 1 + 1 by simp] at h0
    exact h0
  have B0 : Below w.heap.size w (((w.alloc (.cells (rcs r A c) 32)).alloc (.cells (scs p A' c') 35)).alloc (.cells (scs o A'' c'') 35)) := ((((Below.refl _ _).alloc (Nat.le_refl _) _).alloc (by first | (simp; done) | (simp; omega)) _).alloc (by first | (simp; done) | (simp; omega)) _)
  have S0 := hs.to B0 B0.size
  have T0 := hs'.to B0 B0.size
  have U0 := hs''.to B0 B0.size
  go_enter Try.func4, Try.ntmps4
  go_wp2_with fail
  generalize (((w.alloc (.cells (rcs r A c) 32)).alloc (.cells (scs p A' c') 35)).alloc (.cells (scs o A'' c'') 35)) = W0 at *
  refine (HA _).out.mono ?_
  rintro e w1 ⟨rfl, b1⟩
  have B1 := B0.trans (b1.mono B0.size)
  have X1 := X0.on b1 X0.lt
  have P1 := P0.on b1 P0.lt
  have O1 := O0.on b1 O0.lt
  have S1 := S0.up b1
  have T1 := T0.up b1
  have U1 := U0.up b1
  clear B0 X0 P0 O0 S0 T0 U0
  clear b1
  obtain ⟨x_0, x_1, x_2, x_3, x_4, x_5, x_6, x_7, x_8, x_9, x_10, x_11, x_12⟩ := id X1.rb
  obtain ⟨p_0, p_1, p_2, p_3, p_4, p_5, p_6, p_7, p_8, p_9, p_10⟩ := id P1
  obtain ⟨o_0, o_1, o_2, o_3, o_4, o_5, o_6, o_7, o_8, o_9, o_10⟩ := id O1.sb
  go_wp2_with fail
  clear x_0 x_1 x_2 x_3 x_4 x_5 x_6 x_7 x_8 x_9 x_10 x_11 x_12 p_0 p_1 p_2 p_3 p_4 p_5 p_6 p_7 p_8 p_9 p_10 o_0 o_1 o_2 o_3 o_4 o_5 o_6 o_7 o_8 o_9 o_10
  refine (HF _).out.mono ?_
  rintro e w2 ⟨rfl, b2⟩
  have B2 := B1.trans (b2.mono B1.size)
  have X2 := X1.on b2 X1.lt
  have P2 := P1.on b2 P1.lt
  have O2 := O1.on b2 O1.lt
  have S2 := S1.up b2
  have T2 := T1.up b2
  have U2 := U1.up b2
  clear B1 X1 P1 O1 S1 T1 U1
  clear b2
  obtain ⟨x_0, x_1, x_2, x_3, x_4, x_5, x_6, x_7, x_8, x_9, x_10, x_11, x_12⟩ := id X2.rb
  obtain ⟨p_0, p_1, p_2, p_3, p_4, p_5, p_6, p_7, p_8, p_9, p_10⟩ := id P2
  obtain ⟨o_0, o_1, o_2, o_3, o_4, o_5, o_6, o_7, o_8, o_9, o_10⟩ := id O2.sb
  go_wp2_with fail
  clear x_0 x_1 x_2 x_3 x_4 x_5 x_6 x_7 x_8 x_9 x_10 x_11 x_12 p_0 p_1 p_2 p_3 p_4 p_5 p_6 p_7 p_8 p_9 p_10 o_0 o_1 o_2 o_3 o_4 o_5 o_6 o_7 o_8 o_9 o_10
  refine (HG _).out.mono ?_
  rintro e w3 ⟨rfl, b3⟩
  have B3 := B2.trans (b3.mono B2.size)
  have X3 := X2.on b3 X2.lt
  have P3 := P2.on b3 P2.lt
  have O3 := O2.on b3 O2.lt
  have S3 := S2.up b3
  have T3 := T2.up b3
  have U3 := U2.up b3
  clear B2 X2 P2 O2 S2 T2 U2
  clear b3
  obtain ⟨x_0, x_1, x_2, x_3, x_4, x_5, x_6, x_7, x_8, x_9, x_10, x_11, x_12⟩ := id X3.rb
  obtain ⟨p_0, p_1, p_2, p_3, p_4, p_5, p_6, p_7, p_8, p_9, p_10⟩ := id P3
  obtain ⟨o_0, o_1, o_2, o_3, o_4, o_5, o_6, o_7, o_8, o_9, o_10⟩ := id O3.sb
  go_wp2_with fail
  clear x_0 x_1 x_2 x_3 x_4 x_5 x_6 x_7 x_8 x_9 x_10 x_11 x_12 p_0 p_1 p_2 p_3 p_4 p_5 p_6 p_7 p_8 p_9 p_10 o_0 o_1 o_2 o_3 o_4 o_5 o_6 o_7 o_8 o_9 o_10
  refine (HK _).out.mono ?_
  rintro e w4 ⟨rfl, b4⟩
  have B4 := B3.trans (b4.mono B3.size)
  have X4 := X3.on b4 X3.lt
  have P4 := P3.on b4 P3.lt
  have O4 := O3.on b4 O3.lt
  have S4 := S3.up b4
  have T4 := T3.up b4
  have U4 := U3.up b4
  clear B3 X3 P3 O3 S3 T3 U3
  clear b4
  obtain ⟨x_0, x_1, x_2, x_3, x_4, x_5, x_6, x_7, x_8, x_9, x_10, x_11, x_12⟩ := id X4.rb
  obtain ⟨p_0, p_1, p_2, p_3, p_4, p_5, p_6, p_7, p_8, p_9, p_10⟩ := id P4
  obtain ⟨o_0, o_1, o_2, o_3, o_4, o_5, o_6, o_7, o_8, o_9, o_10⟩ := id O4.sb
  go_wp2
  go_ret
  exact ⟨rfl, B4⟩

set_option maxHeartbeats 4000000 in
theorem votes_c (r : Rd) (p o : Sd) (A A' A'' : Option Addr) (c c' c'' : Nat) (w : World) (hs : At.Sl w w.heap.size .i64 A r.xs) (hs' : At.Sl w w.heap.size .i64 A' p.xs) (hs'' : At.Sl w w.heap.size .i64 A'' o.xs) (hf : fw r = true) (hg : decide ((p.xs.length : Int) ≤ 50) = true) (hk : decide ((o.xs.length : Int) ≤ 50) = false) : Calls Try.prog 4 #[rv r A c, sv p A' c', sv o A'' c''] w (UpPost w) := by
  have HA : ∀ W, Hid (Calls Try.prog 6 #[] W (UpPost W)) := fun W => awake_any W
  have HF : ∀ W, Hid (Calls Try.prog 11 #[rv r A c] W (BoolPost W (fw r))) := fun W => few9_any r A c W
  have HG : ∀ W, Hid (Calls Try.prog 7 #[av p.q A' p.xs.length c'] W (At.BoolPost W (decide ((p.xs.length : Int) ≤ 50)))) := fun W => At.few_any p.q A' p.xs.length c' W
  have HK : ∀ W, Hid (Calls Try.prog 7 #[av o.q A'' o.xs.length c''] W (At.BoolPost W (decide ((o.xs.length : Int) ≤ 50)))) := fun W => At.few_any o.q A'' o.xs.length c'' W
  rw [hf] at HF
  rw [hg] at HG
  rw [hk] at HK
  have X0 : Rx (((w.alloc (.cells (rcs r A c) 32)).alloc (.cells (scs p A' c') 35)).alloc (.cells (scs o A'' c'') 35)) (w.heap.size) r A c := by
    have h0 := rx_new w r A c
    exact ((h0.old _).old _)
  have P0 : Sb (((w.alloc (.cells (rcs r A c) 32)).alloc (.cells (scs p A' c') 35)).alloc (.cells (scs o A'' c'') 35)) (w.heap.size + 1) p A' c' := by
    have h0 := sb_new (w.alloc (.cells (rcs r A c) 32)) p A' c'
    rw [show (w.alloc (.cells (rcs r A c) 32)).heap.size = w.heap.size + 1 by simp] at h0
    exact (h0.old _)
  have O0 : Sx (((w.alloc (.cells (rcs r A c) 32)).alloc (.cells (scs p A' c') 35)).alloc (.cells (scs o A'' c'') 35)) (w.heap.size + 1 + 1) o A'' c'' := by
    have h0 := sx_new ((w.alloc (.cells (rcs r A c) 32)).alloc (.cells (scs p A' c') 35)) o A'' c''
    rw [show ((w.alloc (.cells (rcs r A c) 32)).alloc (.cells (scs p A' c') 35)).heap.size = w.heap.size + 1 + 1 by simp] at h0
    exact h0
  have B0 : Below w.heap.size w (((w.alloc (.cells (rcs r A c) 32)).alloc (.cells (scs p A' c') 35)).alloc (.cells (scs o A'' c'') 35)) := ((((Below.refl _ _).alloc (Nat.le_refl _) _).alloc (by first | (simp; done) | (simp; omega)) _).alloc (by first | (simp; done) | (simp; omega)) _)
  have S0 := hs.to B0 B0.size
  have T0 := hs'.to B0 B0.size
  have U0 := hs''.to B0 B0.size
  go_enter Try.func4, Try.ntmps4
  go_wp2_with fail
  generalize (((w.alloc (.cells (rcs r A c) 32)).alloc (.cells (scs p A' c') 35)).alloc (.cells (scs o A'' c'') 35)) = W0 at *
  refine (HA _).out.mono ?_
  rintro e w1 ⟨rfl, b1⟩
  have B1 := B0.trans (b1.mono B0.size)
  have X1 := X0.on b1 X0.lt
  have P1 := P0.on b1 P0.lt
  have O1 := O0.on b1 O0.lt
  have S1 := S0.up b1
  have T1 := T0.up b1
  have U1 := U0.up b1
  clear B0 X0 P0 O0 S0 T0 U0
  clear b1
  obtain ⟨x_0, x_1, x_2, x_3, x_4, x_5, x_6, x_7, x_8, x_9, x_10, x_11, x_12⟩ := id X1.rb
  obtain ⟨p_0, p_1, p_2, p_3, p_4, p_5, p_6, p_7, p_8, p_9, p_10⟩ := id P1
  obtain ⟨o_0, o_1, o_2, o_3, o_4, o_5, o_6, o_7, o_8, o_9, o_10⟩ := id O1.sb
  go_wp2_with fail
  clear x_0 x_1 x_2 x_3 x_4 x_5 x_6 x_7 x_8 x_9 x_10 x_11 x_12 p_0 p_1 p_2 p_3 p_4 p_5 p_6 p_7 p_8 p_9 p_10 o_0 o_1 o_2 o_3 o_4 o_5 o_6 o_7 o_8 o_9 o_10
  refine (HF _).out.mono ?_
  rintro e w2 ⟨rfl, b2⟩
  have B2 := B1.trans (b2.mono B1.size)
  have X2 := X1.on b2 X1.lt
  have P2 := P1.on b2 P1.lt
  have O2 := O1.on b2 O1.lt
  have S2 := S1.up b2
  have T2 := T1.up b2
  have U2 := U1.up b2
  clear B1 X1 P1 O1 S1 T1 U1
  clear b2
  obtain ⟨x_0, x_1, x_2, x_3, x_4, x_5, x_6, x_7, x_8, x_9, x_10, x_11, x_12⟩ := id X2.rb
  obtain ⟨p_0, p_1, p_2, p_3, p_4, p_5, p_6, p_7, p_8, p_9, p_10⟩ := id P2
  obtain ⟨o_0, o_1, o_2, o_3, o_4, o_5, o_6, o_7, o_8, o_9, o_10⟩ := id O2.sb
  go_wp2_with fail
  clear x_0 x_1 x_2 x_3 x_4 x_5 x_6 x_7 x_8 x_9 x_10 x_11 x_12 p_0 p_1 p_2 p_3 p_4 p_5 p_6 p_7 p_8 p_9 p_10 o_0 o_1 o_2 o_3 o_4 o_5 o_6 o_7 o_8 o_9 o_10
  refine (HG _).out.mono ?_
  rintro e w3 ⟨rfl, b3⟩
  have B3 := B2.trans (b3.mono B2.size)
  have X3 := X2.on b3 X2.lt
  have P3 := P2.on b3 P2.lt
  have O3 := O2.on b3 O2.lt
  have S3 := S2.up b3
  have T3 := T2.up b3
  have U3 := U2.up b3
  clear B2 X2 P2 O2 S2 T2 U2
  clear b3
  obtain ⟨x_0, x_1, x_2, x_3, x_4, x_5, x_6, x_7, x_8, x_9, x_10, x_11, x_12⟩ := id X3.rb
  obtain ⟨p_0, p_1, p_2, p_3, p_4, p_5, p_6, p_7, p_8, p_9, p_10⟩ := id P3
  obtain ⟨o_0, o_1, o_2, o_3, o_4, o_5, o_6, o_7, o_8, o_9, o_10⟩ := id O3.sb
  go_wp2_with fail
  clear x_0 x_1 x_2 x_3 x_4 x_5 x_6 x_7 x_8 x_9 x_10 x_11 x_12 p_0 p_1 p_2 p_3 p_4 p_5 p_6 p_7 p_8 p_9 p_10 o_0 o_1 o_2 o_3 o_4 o_5 o_6 o_7 o_8 o_9 o_10
  refine (HK _).out.mono ?_
  rintro e w4 ⟨rfl, b4⟩
  have B4 := B3.trans (b4.mono B3.size)
  have X4 := X3.on b4 X3.lt
  have P4 := P3.on b4 P3.lt
  have O4 := O3.on b4 O3.lt
  have S4 := S3.up b4
  have T4 := T3.up b4
  have U4 := U3.up b4
  clear B3 X3 P3 O3 S3 T3 U3
  clear b4
  obtain ⟨x_0, x_1, x_2, x_3, x_4, x_5, x_6, x_7, x_8, x_9, x_10, x_11, x_12⟩ := id X4.rb
  obtain ⟨p_0, p_1, p_2, p_3, p_4, p_5, p_6, p_7, p_8, p_9, p_10⟩ := id P4
  obtain ⟨o_0, o_1, o_2, o_3, o_4, o_5, o_6, o_7, o_8, o_9, o_10⟩ := id O4.sb
  go_wp2
  go_ret
  exact ⟨rfl, B4⟩

set_option maxHeartbeats 4000000 in
theorem votes_d (r : Rd) (p o : Sd) (A A' A'' : Option Addr) (c c' c'' : Nat) (w : World) (hs : At.Sl w w.heap.size .i64 A r.xs) (hs' : At.Sl w w.heap.size .i64 A' p.xs) (hs'' : At.Sl w w.heap.size .i64 A'' o.xs) (hf : fw r = true) (hg : decide ((p.xs.length : Int) ≤ 50) = true) (hk : decide ((o.xs.length : Int) ≤ 50) = true) (h0 : p.g < 1) : Calls Try.prog 4 #[rv r A c, sv p A' c', sv o A'' c''] w (UpPost w) := by
  have HA : ∀ W, Hid (Calls Try.prog 6 #[] W (UpPost W)) := fun W => awake_any W
  have HF : ∀ W, Hid (Calls Try.prog 11 #[rv r A c] W (BoolPost W (fw r))) := fun W => few9_any r A c W
  have HG : ∀ W, Hid (Calls Try.prog 7 #[av p.q A' p.xs.length c'] W (At.BoolPost W (decide ((p.xs.length : Int) ≤ 50)))) := fun W => At.few_any p.q A' p.xs.length c' W
  have HK : ∀ W, Hid (Calls Try.prog 7 #[av o.q A'' o.xs.length c''] W (At.BoolPost W (decide ((o.xs.length : Int) ≤ 50)))) := fun W => At.few_any o.q A'' o.xs.length c'' W
  rw [hf] at HF
  rw [hg] at HG
  rw [hk] at HK
  have X0 : Rx (((w.alloc (.cells (rcs r A c) 32)).alloc (.cells (scs p A' c') 35)).alloc (.cells (scs o A'' c'') 35)) (w.heap.size) r A c := by
    have h0 := rx_new w r A c
    exact ((h0.old _).old _)
  have P0 : Sb (((w.alloc (.cells (rcs r A c) 32)).alloc (.cells (scs p A' c') 35)).alloc (.cells (scs o A'' c'') 35)) (w.heap.size + 1) p A' c' := by
    have h0 := sb_new (w.alloc (.cells (rcs r A c) 32)) p A' c'
    rw [show (w.alloc (.cells (rcs r A c) 32)).heap.size = w.heap.size + 1 by simp] at h0
    exact (h0.old _)
  have O0 : Sx (((w.alloc (.cells (rcs r A c) 32)).alloc (.cells (scs p A' c') 35)).alloc (.cells (scs o A'' c'') 35)) (w.heap.size + 1 + 1) o A'' c'' := by
    have h0 := sx_new ((w.alloc (.cells (rcs r A c) 32)).alloc (.cells (scs p A' c') 35)) o A'' c''
    rw [show ((w.alloc (.cells (rcs r A c) 32)).alloc (.cells (scs p A' c') 35)).heap.size = w.heap.size + 1 + 1 by simp] at h0
    exact h0
  have B0 : Below w.heap.size w (((w.alloc (.cells (rcs r A c) 32)).alloc (.cells (scs p A' c') 35)).alloc (.cells (scs o A'' c'') 35)) := ((((Below.refl _ _).alloc (Nat.le_refl _) _).alloc (by first | (simp; done) | (simp; omega)) _).alloc (by first | (simp; done) | (simp; omega)) _)
  have S0 := hs.to B0 B0.size
  have T0 := hs'.to B0 B0.size
  have U0 := hs''.to B0 B0.size
  go_enter Try.func4, Try.ntmps4
  go_wp2_with fail
  generalize (((w.alloc (.cells (rcs r A c) 32)).alloc (.cells (scs p A' c') 35)).alloc (.cells (scs o A'' c'') 35)) = W0 at *
  refine (HA _).out.mono ?_
  rintro e w1 ⟨rfl, b1⟩
  have B1 := B0.trans (b1.mono B0.size)
  have X1 := X0.on b1 X0.lt
  have P1 := P0.on b1 P0.lt
  have O1 := O0.on b1 O0.lt
  have S1 := S0.up b1
  have T1 := T0.up b1
  have U1 := U0.up b1
  clear B0 X0 P0 O0 S0 T0 U0
  clear b1
  obtain ⟨x_0, x_1, x_2, x_3, x_4, x_5, x_6, x_7, x_8, x_9, x_10, x_11, x_12⟩ := id X1.rb
  obtain ⟨p_0, p_1, p_2, p_3, p_4, p_5, p_6, p_7, p_8, p_9, p_10⟩ := id P1
  obtain ⟨o_0, o_1, o_2, o_3, o_4, o_5, o_6, o_7, o_8, o_9, o_10⟩ := id O1.sb
  go_wp2_with fail
  clear x_0 x_1 x_2 x_3 x_4 x_5 x_6 x_7 x_8 x_9 x_10 x_11 x_12 p_0 p_1 p_2 p_3 p_4 p_5 p_6 p_7 p_8 p_9 p_10 o_0 o_1 o_2 o_3 o_4 o_5 o_6 o_7 o_8 o_9 o_10
  refine (HF _).out.mono ?_
  rintro e w2 ⟨rfl, b2⟩
  have B2 := B1.trans (b2.mono B1.size)
  have X2 := X1.on b2 X1.lt
  have P2 := P1.on b2 P1.lt
  have O2 := O1.on b2 O1.lt
  have S2 := S1.up b2
  have T2 := T1.up b2
  have U2 := U1.up b2
  clear B1 X1 P1 O1 S1 T1 U1
  clear b2
  obtain ⟨x_0, x_1, x_2, x_3, x_4, x_5, x_6, x_7, x_8, x_9, x_10, x_11, x_12⟩ := id X2.rb
  obtain ⟨p_0, p_1, p_2, p_3, p_4, p_5, p_6, p_7, p_8, p_9, p_10⟩ := id P2
  obtain ⟨o_0, o_1, o_2, o_3, o_4, o_5, o_6, o_7, o_8, o_9, o_10⟩ := id O2.sb
  go_wp2_with fail
  clear x_0 x_1 x_2 x_3 x_4 x_5 x_6 x_7 x_8 x_9 x_10 x_11 x_12 p_0 p_1 p_2 p_3 p_4 p_5 p_6 p_7 p_8 p_9 p_10 o_0 o_1 o_2 o_3 o_4 o_5 o_6 o_7 o_8 o_9 o_10
  refine (HG _).out.mono ?_
  rintro e w3 ⟨rfl, b3⟩
  have B3 := B2.trans (b3.mono B2.size)
  have X3 := X2.on b3 X2.lt
  have P3 := P2.on b3 P2.lt
  have O3 := O2.on b3 O2.lt
  have S3 := S2.up b3
  have T3 := T2.up b3
  have U3 := U2.up b3
  clear B2 X2 P2 O2 S2 T2 U2
  clear b3
  obtain ⟨x_0, x_1, x_2, x_3, x_4, x_5, x_6, x_7, x_8, x_9, x_10, x_11, x_12⟩ := id X3.rb
  obtain ⟨p_0, p_1, p_2, p_3, p_4, p_5, p_6, p_7, p_8, p_9, p_10⟩ := id P3
  obtain ⟨o_0, o_1, o_2, o_3, o_4, o_5, o_6, o_7, o_8, o_9, o_10⟩ := id O3.sb
  go_wp2_with fail
  clear x_0 x_1 x_2 x_3 x_4 x_5 x_6 x_7 x_8 x_9 x_10 x_11 x_12 p_0 p_1 p_2 p_3 p_4 p_5 p_6 p_7 p_8 p_9 p_10 o_0 o_1 o_2 o_3 o_4 o_5 o_6 o_7 o_8 o_9 o_10
  refine (HK _).out.mono ?_
  rintro e w4 ⟨rfl, b4⟩
  have B4 := B3.trans (b4.mono B3.size)
  have X4 := X3.on b4 X3.lt
  have P4 := P3.on b4 P3.lt
  have O4 := O3.on b4 O3.lt
  have S4 := S3.up b4
  have T4 := T3.up b4
  have U4 := U3.up b4
  clear B3 X3 P3 O3 S3 T3 U3
  clear b4
  obtain ⟨x_0, x_1, x_2, x_3, x_4, x_5, x_6, x_7, x_8, x_9, x_10, x_11, x_12⟩ := id X4.rb
  obtain ⟨p_0, p_1, p_2, p_3, p_4, p_5, p_6, p_7, p_8, p_9, p_10⟩ := id P4
  obtain ⟨o_0, o_1, o_2, o_3, o_4, o_5, o_6, o_7, o_8, o_9, o_10⟩ := id O4.sb
  go_wp2
  go_ret
  exact ⟨rfl, B4⟩

set_option maxHeartbeats 4000000 in
theorem votes_e (r : Rd) (p o : Sd) (A A' A'' : Option Addr) (c c' c'' : Nat) (w : World) (hs : At.Sl w w.heap.size .i64 A r.xs) (hs' : At.Sl w w.heap.size .i64 A' p.xs) (hs'' : At.Sl w w.heap.size .i64 A'' o.xs) (hf : fw r = true) (hg : decide ((p.xs.length : Int) ≤ 50) = true) (hk : decide ((o.xs.length : Int) ≤ 50) = true) (h0 : ¬ p.g < 1) (h2 : 2 < p.g) : Calls Try.prog 4 #[rv r A c, sv p A' c', sv o A'' c''] w (UpPost w) := by
  have HA : ∀ W, Hid (Calls Try.prog 6 #[] W (UpPost W)) := fun W => awake_any W
  have HF : ∀ W, Hid (Calls Try.prog 11 #[rv r A c] W (BoolPost W (fw r))) := fun W => few9_any r A c W
  have HG : ∀ W, Hid (Calls Try.prog 7 #[av p.q A' p.xs.length c'] W (At.BoolPost W (decide ((p.xs.length : Int) ≤ 50)))) := fun W => At.few_any p.q A' p.xs.length c' W
  have HK : ∀ W, Hid (Calls Try.prog 7 #[av o.q A'' o.xs.length c''] W (At.BoolPost W (decide ((o.xs.length : Int) ≤ 50)))) := fun W => At.few_any o.q A'' o.xs.length c'' W
  rw [hf] at HF
  rw [hg] at HG
  rw [hk] at HK
  have X0 : Rx (((w.alloc (.cells (rcs r A c) 32)).alloc (.cells (scs p A' c') 35)).alloc (.cells (scs o A'' c'') 35)) (w.heap.size) r A c := by
    have h0 := rx_new w r A c
    exact ((h0.old _).old _)
  have P0 : Sb (((w.alloc (.cells (rcs r A c) 32)).alloc (.cells (scs p A' c') 35)).alloc (.cells (scs o A'' c'') 35)) (w.heap.size + 1) p A' c' := by
    have h0 := sb_new (w.alloc (.cells (rcs r A c) 32)) p A' c'
    rw [show (w.alloc (.cells (rcs r A c) 32)).heap.size = w.heap.size + 1 by simp] at h0
    exact (h0.old _)
  have O0 : Sx (((w.alloc (.cells (rcs r A c) 32)).alloc (.cells (scs p A' c') 35)).alloc (.cells (scs o A'' c'') 35)) (w.heap.size + 1 + 1) o A'' c'' := by
    have h0 := sx_new ((w.alloc (.cells (rcs r A c) 32)).alloc (.cells (scs p A' c') 35)) o A'' c''
    rw [show ((w.alloc (.cells (rcs r A c) 32)).alloc (.cells (scs p A' c') 35)).heap.size = w.heap.size + 1 + 1 by simp] at h0
    exact h0
  have B0 : Below w.heap.size w (((w.alloc (.cells (rcs r A c) 32)).alloc (.cells (scs p A' c') 35)).alloc (.cells (scs o A'' c'') 35)) := ((((Below.refl _ _).alloc (Nat.le_refl _) _).alloc (by first | (simp; done) | (simp; omega)) _).alloc (by first | (simp; done) | (simp; omega)) _)
  have S0 := hs.to B0 B0.size
  have T0 := hs'.to B0 B0.size
  have U0 := hs''.to B0 B0.size
  go_enter Try.func4, Try.ntmps4
  go_wp2_with fail
  generalize (((w.alloc (.cells (rcs r A c) 32)).alloc (.cells (scs p A' c') 35)).alloc (.cells (scs o A'' c'') 35)) = W0 at *
  refine (HA _).out.mono ?_
  rintro e w1 ⟨rfl, b1⟩
  have B1 := B0.trans (b1.mono B0.size)
  have X1 := X0.on b1 X0.lt
  have P1 := P0.on b1 P0.lt
  have O1 := O0.on b1 O0.lt
  have S1 := S0.up b1
  have T1 := T0.up b1
  have U1 := U0.up b1
  clear B0 X0 P0 O0 S0 T0 U0
  clear b1
  obtain ⟨x_0, x_1, x_2, x_3, x_4, x_5, x_6, x_7, x_8, x_9, x_10, x_11, x_12⟩ := id X1.rb
  obtain ⟨p_0, p_1, p_2, p_3, p_4, p_5, p_6, p_7, p_8, p_9, p_10⟩ := id P1
  obtain ⟨o_0, o_1, o_2, o_3, o_4, o_5, o_6, o_7, o_8, o_9, o_10⟩ := id O1.sb
  go_wp2_with fail
  clear x_0 x_1 x_2 x_3 x_4 x_5 x_6 x_7 x_8 x_9 x_10 x_11 x_12 p_0 p_1 p_2 p_3 p_4 p_5 p_6 p_7 p_8 p_9 p_10 o_0 o_1 o_2 o_3 o_4 o_5 o_6 o_7 o_8 o_9 o_10
  refine (HF _).out.mono ?_
  rintro e w2 ⟨rfl, b2⟩
  have B2 := B1.trans (b2.mono B1.size)
  have X2 := X1.on b2 X1.lt
  have P2 := P1.on b2 P1.lt
  have O2 := O1.on b2 O1.lt
  have S2 := S1.up b2
  have T2 := T1.up b2
  have U2 := U1.up b2
  clear B1 X1 P1 O1 S1 T1 U1
  clear b2
  obtain ⟨x_0, x_1, x_2, x_3, x_4, x_5, x_6, x_7, x_8, x_9, x_10, x_11, x_12⟩ := id X2.rb
  obtain ⟨p_0, p_1, p_2, p_3, p_4, p_5, p_6, p_7, p_8, p_9, p_10⟩ := id P2
  obtain ⟨o_0, o_1, o_2, o_3, o_4, o_5, o_6, o_7, o_8, o_9, o_10⟩ := id O2.sb
  go_wp2_with fail
  clear x_0 x_1 x_2 x_3 x_4 x_5 x_6 x_7 x_8 x_9 x_10 x_11 x_12 p_0 p_1 p_2 p_3 p_4 p_5 p_6 p_7 p_8 p_9 p_10 o_0 o_1 o_2 o_3 o_4 o_5 o_6 o_7 o_8 o_9 o_10
  refine (HG _).out.mono ?_
  rintro e w3 ⟨rfl, b3⟩
  have B3 := B2.trans (b3.mono B2.size)
  have X3 := X2.on b3 X2.lt
  have P3 := P2.on b3 P2.lt
  have O3 := O2.on b3 O2.lt
  have S3 := S2.up b3
  have T3 := T2.up b3
  have U3 := U2.up b3
  clear B2 X2 P2 O2 S2 T2 U2
  clear b3
  obtain ⟨x_0, x_1, x_2, x_3, x_4, x_5, x_6, x_7, x_8, x_9, x_10, x_11, x_12⟩ := id X3.rb
  obtain ⟨p_0, p_1, p_2, p_3, p_4, p_5, p_6, p_7, p_8, p_9, p_10⟩ := id P3
  obtain ⟨o_0, o_1, o_2, o_3, o_4, o_5, o_6, o_7, o_8, o_9, o_10⟩ := id O3.sb
  go_wp2_with fail
  clear x_0 x_1 x_2 x_3 x_4 x_5 x_6 x_7 x_8 x_9 x_10 x_11 x_12 p_0 p_1 p_2 p_3 p_4 p_5 p_6 p_7 p_8 p_9 p_10 o_0 o_1 o_2 o_3 o_4 o_5 o_6 o_7 o_8 o_9 o_10
  refine (HK _).out.mono ?_
  rintro e w4 ⟨rfl, b4⟩
  have B4 := B3.trans (b4.mono B3.size)
  have X4 := X3.on b4 X3.lt
  have P4 := P3.on b4 P3.lt
  have O4 := O3.on b4 O3.lt
  have S4 := S3.up b4
  have T4 := T3.up b4
  have U4 := U3.up b4
  clear B3 X3 P3 O3 S3 T3 U3
  clear b4
  obtain ⟨x_0, x_1, x_2, x_3, x_4, x_5, x_6, x_7, x_8, x_9, x_10, x_11, x_12⟩ := id X4.rb
  obtain ⟨p_0, p_1, p_2, p_3, p_4, p_5, p_6, p_7, p_8, p_9, p_10⟩ := id P4
  obtain ⟨o_0, o_1, o_2, o_3, o_4, o_5, o_6, o_7, o_8, o_9, o_10⟩ := id O4.sb
  go_wp2
  go_ret
  exact ⟨rfl, B4⟩

set_option maxHeartbeats 4000000 in
theorem votes_f (r : Rd) (p o : Sd) (A A' A'' : Option Addr) (c c' c'' : Nat) (w : World) (hs : At.Sl w w.heap.size .i64 A r.xs) (hs' : At.Sl w w.heap.size .i64 A' p.xs) (hs'' : At.Sl w w.heap.size .i64 A'' o.xs) (hf : fw r = true) (hg : decide ((p.xs.length : Int) ≤ 50) = true) (hk : decide ((o.xs.length : Int) ≤ 50) = true) (h0 : ¬ p.g < 1) (h2 : ¬ 2 < p.g) (hm : 0 < Ba.cm r.vn r.vb r.pn r.pb) : Calls Try.prog 4 #[rv r A c, sv p A' c', sv o A'' c''] w (UpPost w) := by
  have HA : ∀ W, Hid (Calls Try.prog 6 #[] W (UpPost W)) := fun W => awake_any W
  have HF : ∀ W, Hid (Calls Try.prog 11 #[rv r A c] W (BoolPost W (fw r))) := fun W => few9_any r A c W
  have HG : ∀ W, Hid (Calls Try.prog 7 #[av p.q A' p.xs.length c'] W (At.BoolPost W (decide ((p.xs.length : Int) ≤ 50)))) := fun W => At.few_any p.q A' p.xs.length c' W
  have HK : ∀ W, Hid (Calls Try.prog 7 #[av o.q A'' o.xs.length c''] W (At.BoolPost W (decide ((o.xs.length : Int) ≤ 50)))) := fun W => At.few_any o.q A'' o.xs.length c'' W
  rw [hf] at HF
  rw [hg] at HG
  rw [hk] at HK
  have HC : ∀ W, Hid (Calls Try.prog 9 #[bv r.vn r.vb, bv r.pn r.pb] W (Ba.IntPost W (Ba.cm r.vn r.vb r.pn r.pb))) := fun W => Ba.cmp_any r.vn r.vb r.pn r.pb W
  generalize Ba.cm r.vn r.vb r.pn r.pb = m1 at *
  have X0 : Rx (((w.alloc (.cells (rcs r A c) 32)).alloc (.cells (scs p A' c') 35)).alloc (.cells (scs o A'' c'') 35)) (w.heap.size) r A c := by
    have h0 := rx_new w r A c
    exact ((h0.old _).old _)
  have P0 : Sb (((w.alloc (.cells (rcs r A c) 32)).alloc (.cells (scs p A' c') 35)).alloc (.cells (scs o A'' c'') 35)) (w.heap.size + 1) p A' c' := by
    have h0 := sb_new (w.alloc (.cells (rcs r A c) 32)) p A' c'
    rw [show (w.alloc (.cells (rcs r A c) 32)).heap.size = w.heap.size + 1 by simp] at h0
    exact (h0.old _)
  have O0 : Sx (((w.alloc (.cells (rcs r A c) 32)).alloc (.cells (scs p A' c') 35)).alloc (.cells (scs o A'' c'') 35)) (w.heap.size + 1 + 1) o A'' c'' := by
    have h0 := sx_new ((w.alloc (.cells (rcs r A c) 32)).alloc (.cells (scs p A' c') 35)) o A'' c''
    rw [show ((w.alloc (.cells (rcs r A c) 32)).alloc (.cells (scs p A' c') 35)).heap.size = w.heap.size + 1 + 1 by simp] at h0
    exact h0
  have B0 : Below w.heap.size w (((w.alloc (.cells (rcs r A c) 32)).alloc (.cells (scs p A' c') 35)).alloc (.cells (scs o A'' c'') 35)) := ((((Below.refl _ _).alloc (Nat.le_refl _) _).alloc (by first | (simp; done) | (simp; omega)) _).alloc (by first | (simp; done) | (simp; omega)) _)
  have S0 := hs.to B0 B0.size
  have T0 := hs'.to B0 B0.size
  have U0 := hs''.to B0 B0.size
  go_enter Try.func4, Try.ntmps4
  go_wp2_with fail
  generalize (((w.alloc (.cells (rcs r A c) 32)).alloc (.cells (scs p A' c') 35)).alloc (.cells (scs o A'' c'') 35)) = W0 at *
  refine (HA _).out.mono ?_
  rintro e w1 ⟨rfl, b1⟩
  have B1 := B0.trans (b1.mono B0.size)
  have X1 := X0.on b1 X0.lt
  have P1 := P0.on b1 P0.lt
  have O1 := O0.on b1 O0.lt
  have S1 := S0.up b1
  have T1 := T0.up b1
  have U1 := U0.up b1
  clear B0 X0 P0 O0 S0 T0 U0
  clear b1
  obtain ⟨x_0, x_1, x_2, x_3, x_4, x_5, x_6, x_7, x_8, x_9, x_10, x_11, x_12⟩ := id X1.rb
  obtain ⟨p_0, p_1, p_2, p_3, p_4, p_5, p_6, p_7, p_8, p_9, p_10⟩ := id P1
  obtain ⟨o_0, o_1, o_2, o_3, o_4, o_5, o_6, o_7, o_8, o_9, o_10⟩ := id O1.sb
  go_wp2_with fail
  clear x_0 x_1 x_2 x_3 x_4 x_5 x_6 x_7 x_8 x_9 x_10 x_11 x_12 p_0 p_1 p_2 p_3 p_4 p_5 p_6 p_7 p_8 p_9 p_10 o_0 o_1 o_2 o_3 o_4 o_5 o_6 o_7 o_8 o_9 o_10
  refine (HF _).out.mono ?_
  rintro e w2 ⟨rfl, b2⟩
  have B2 := B1.trans (b2.mono B1.size)
  have X2 := X1.on b2 X1.lt
  have P2 := P1.on b2 P1.lt
  have O2 := O1.on b2 O1.lt
  have S2 := S1.up b2
  have T2 := T1.up b2
  have U2 := U1.up b2
  clear B1 X1 P1 O1 S1 T1 U1
  clear b2
  obtain ⟨x_0, x_1, x_2, x_3, x_4, x_5, x_6, x_7, x_8, x_9, x_10, x_11, x_12⟩ := id X2.rb
  obtain ⟨p_0, p_1, p_2, p_3, p_4, p_5, p_6, p_7, p_8, p_9, p_10⟩ := id P2
  obtain ⟨o_0, o_1, o_2, o_3, o_4, o_5, o_6, o_7, o_8, o_9, o_10⟩ := id O2.sb
  go_wp2_with fail
  clear x_0 x_1 x_2 x_3 x_4 x_5 x_6 x_7 x_8 x_9 x_10 x_11 x_12 p_0 p_1 p_2 p_3 p_4 p_5 p_6 p_7 p_8 p_9 p_10 o_0 o_1 o_2 o_3 o_4 o_5 o_6 o_7 o_8 o_9 o_10
  refine (HG _).out.mono ?_
  rintro e w3 ⟨rfl, b3⟩
  have B3 := B2.trans (b3.mono B2.size)
  have X3 := X2.on b3 X2.lt
  have P3 := P2.on b3 P2.lt
  have O3 := O2.on b3 O2.lt
  have S3 := S2.up b3
  have T3 := T2.up b3
  have U3 := U2.up b3
  clear B2 X2 P2 O2 S2 T2 U2
  clear b3
  obtain ⟨x_0, x_1, x_2, x_3, x_4, x_5, x_6, x_7, x_8, x_9, x_10, x_11, x_12⟩ := id X3.rb
  obtain ⟨p_0, p_1, p_2, p_3, p_4, p_5, p_6, p_7, p_8, p_9, p_10⟩ := id P3
  obtain ⟨o_0, o_1, o_2, o_3, o_4, o_5, o_6, o_7, o_8, o_9, o_10⟩ := id O3.sb
  go_wp2_with fail
  clear x_0 x_1 x_2 x_3 x_4 x_5 x_6 x_7 x_8 x_9 x_10 x_11 x_12 p_0 p_1 p_2 p_3 p_4 p_5 p_6 p_7 p_8 p_9 p_10 o_0 o_1 o_2 o_3 o_4 o_5 o_6 o_7 o_8 o_9 o_10
  refine (HK _).out.mono ?_
  rintro e w4 ⟨rfl, b4⟩
  have B4 := B3.trans (b4.mono B3.size)
  have X4 := X3.on b4 X3.lt
  have P4 := P3.on b4 P3.lt
  have O4 := O3.on b4 O3.lt
  have S4 := S3.up b4
  have T4 := T3.up b4
  have U4 := U3.up b4
  clear B3 X3 P3 O3 S3 T3 U3
  clear b4
  obtain ⟨x_0, x_1, x_2, x_3, x_4, x_5, x_6, x_7, x_8, x_9, x_10, x_11, x_12⟩ := id X4.rb
  obtain ⟨p_0, p_1, p_2, p_3, p_4, p_5, p_6, p_7, p_8, p_9, p_10⟩ := id P4
  obtain ⟨o_0, o_1, o_2, o_3, o_4, o_5, o_6, o_7, o_8, o_9, o_10⟩ := id O4.sb
  go_wp2_with fail
  clear x_0 x_1 x_2 x_3 x_4 x_5 x_6 x_7 x_8 x_9 x_10 x_11 x_12 p_0 p_1 p_2 p_3 p_4 p_5 p_6 p_7 p_8 p_9 p_10 o_0 o_1 o_2 o_3 o_4 o_5 o_6 o_7 o_8 o_9 o_10
  refine (HC _).out.mono ?_
  rintro e w5 ⟨rfl, b5⟩
  have B5 := B4.trans (b5.mono B4.size)
  have X5 := X4.on b5 X4.lt
  have P5 := P4.on b5 P4.lt
  have O5 := O4.on b5 O4.lt
  have S5 := S4.up b5
  have T5 := T4.up b5
  have U5 := U4.up b5
  clear B4 X4 P4 O4 S4 T4 U4
  clear b5
  obtain ⟨x_0, x_1, x_2, x_3, x_4, x_5, x_6, x_7, x_8, x_9, x_10, x_11, x_12⟩ := id X5.rb
  obtain ⟨p_0, p_1, p_2, p_3, p_4, p_5, p_6, p_7, p_8, p_9, p_10⟩ := id P5
  obtain ⟨o_0, o_1, o_2, o_3, o_4, o_5, o_6, o_7, o_8, o_9, o_10⟩ := id O5.sb
  go_wp2
  go_ret
  exact ⟨rfl, B5⟩

set_option maxHeartbeats 4000000 in
theorem votes_no (r : Rd) (p o : Sd) (A A' A'' : Option Addr) (c c' c'' : Nat) (w : World) (hs : At.Sl w w.heap.size .i64 A r.xs) (hs' : At.Sl w w.heap.size .i64 A' p.xs) (hs'' : At.Sl w w.heap.size .i64 A'' o.xs) (hf : fw r = true) (hg : decide ((p.xs.length : Int) ≤ 50) = true) (hk : decide ((o.xs.length : Int) ≤ 50) = true) (h0 : ¬ p.g < 1) (h2 : ¬ 2 < p.g) (hm : ¬ 0 < Ba.cm r.vn r.vb r.pn r.pb) (hd : db r p = false) : Calls Try.prog 4 #[rv r A c, sv p A' c', sv o A'' c''] w (UpPost w) := by
  have HA : ∀ W, Hid (Calls Try.prog 6 #[] W (UpPost W)) := fun W => awake_any W
  have HF : ∀ W, Hid (Calls Try.prog 11 #[rv r A c] W (BoolPost W (fw r))) := fun W => few9_any r A c W
  have HG : ∀ W, Hid (Calls Try.prog 7 #[av p.q A' p.xs.length c'] W (At.BoolPost W (decide ((p.xs.length : Int) ≤ 50)))) := fun W => At.few_any p.q A' p.xs.length c' W
  have HK : ∀ W, Hid (Calls Try.prog 7 #[av o.q A'' o.xs.length c''] W (At.BoolPost W (decide ((o.xs.length : Int) ≤ 50)))) := fun W => At.few_any o.q A'' o.xs.length c'' W
  rw [hf] at HF
  rw [hg] at HG
  rw [hk] at HK
  have HC : ∀ W, Hid (Calls Try.prog 9 #[bv r.vn r.vb, bv r.pn r.pb] W (Ba.IntPost W (Ba.cm r.vn r.vb r.pn r.pb))) := fun W => Ba.cmp_any r.vn r.vb r.pn r.pb W
  have l1 : r.xs.length ≤ 50 := fw_le hf
  have l2 : p.xs.length ≤ 50 := by have := of_decide_eq_true hg; omega
  have l3 : o.xs.length ≤ 50 := by have := of_decide_eq_true hk; omega
  have HD : ∀ W, At.Sl W W.heap.size .i64 A r.xs → At.Sl W W.heap.size .i64 A' p.xs → Hid (Calls Try.prog 8 #[rv r A c, sv p A' c'] W (VotePost W (ds r p) (db r p))) := fun W g g' => does_any r p A A' c c' W g g' (by omega) (by omega)
  have HS : ∀ W A1 A2 c1 c2, At.Sl W W.heap.size .i64 A1 r.xs → At.Sl W W.heap.size .i64 A2 r.xs → Hid (Calls Try.prog 10 #[rv r A1 c1, rv r A2 c2] W (BoolPost W true)) := fun W A1 A2 c1 c2 g g' => by
    have := same_any r r A1 A2 c1 c2 W g g' (by omega) (by omega)
    rw [sm_self] at this
    exact this
  rw [hd, no_stays h0 h2 hd] at HD
  clear hd
  generalize Ba.cm r.vn r.vb r.pn r.pb = m1 at *
  clear hf hg hk l1 l2 l3
  have X0 : Rx (((w.alloc (.cells (rcs r A c) 32)).alloc (.cells (scs p A' c') 35)).alloc (.cells (scs o A'' c'') 35)) (w.heap.size) r A c := by
    have h0 := rx_new w r A c
    exact ((h0.old _).old _)
  have P0 : Sb (((w.alloc (.cells (rcs r A c) 32)).alloc (.cells (scs p A' c') 35)).alloc (.cells (scs o A'' c'') 35)) (w.heap.size + 1) p A' c' := by
    have h0 := sb_new (w.alloc (.cells (rcs r A c) 32)) p A' c'
    rw [show (w.alloc (.cells (rcs r A c) 32)).heap.size = w.heap.size + 1 by simp] at h0
    exact (h0.old _)
  have O0 : Sx (((w.alloc (.cells (rcs r A c) 32)).alloc (.cells (scs p A' c') 35)).alloc (.cells (scs o A'' c'') 35)) (w.heap.size + 1 + 1) o A'' c'' := by
    have h0 := sx_new ((w.alloc (.cells (rcs r A c) 32)).alloc (.cells (scs p A' c') 35)) o A'' c''
    rw [show ((w.alloc (.cells (rcs r A c) 32)).alloc (.cells (scs p A' c') 35)).heap.size = w.heap.size + 1 + 1 by simp] at h0
    exact h0
  have B0 : Below w.heap.size w (((w.alloc (.cells (rcs r A c) 32)).alloc (.cells (scs p A' c') 35)).alloc (.cells (scs o A'' c'') 35)) := ((((Below.refl _ _).alloc (Nat.le_refl _) _).alloc (by first | (simp; done) | (simp; omega)) _).alloc (by first | (simp; done) | (simp; omega)) _)
  have S0 := hs.to B0 B0.size
  have T0 := hs'.to B0 B0.size
  have U0 := hs''.to B0 B0.size
  go_enter Try.func4, Try.ntmps4
  go_wp2_with fail
  generalize (((w.alloc (.cells (rcs r A c) 32)).alloc (.cells (scs p A' c') 35)).alloc (.cells (scs o A'' c'') 35)) = W0 at *
  refine (HA _).out.mono ?_
  rintro e w1 ⟨rfl, b1⟩
  have B1 := B0.trans (b1.mono B0.size)
  have X1 := X0.on b1 X0.lt
  have P1 := P0.on b1 P0.lt
  have O1 := O0.on b1 O0.lt
  have S1 := S0.up b1
  have T1 := T0.up b1
  have U1 := U0.up b1
  clear B0 X0 P0 O0 S0 T0 U0
  clear b1
  obtain ⟨x_0, x_1, x_2, x_3, x_4, x_5, x_6, x_7, x_8, x_9, x_10, x_11, x_12⟩ := id X1.rb
  obtain ⟨p_0, p_1, p_2, p_3, p_4, p_5, p_6, p_7, p_8, p_9, p_10⟩ := id P1
  obtain ⟨o_0, o_1, o_2, o_3, o_4, o_5, o_6, o_7, o_8, o_9, o_10⟩ := id O1.sb
  go_wp2_with fail
  clear x_0 x_1 x_2 x_3 x_4 x_5 x_6 x_7 x_8 x_9 x_10 x_11 x_12 p_0 p_1 p_2 p_3 p_4 p_5 p_6 p_7 p_8 p_9 p_10 o_0 o_1 o_2 o_3 o_4 o_5 o_6 o_7 o_8 o_9 o_10
  refine (HF _).out.mono ?_
  rintro e w2 ⟨rfl, b2⟩
  have B2 := B1.trans (b2.mono B1.size)
  have X2 := X1.on b2 X1.lt
  have P2 := P1.on b2 P1.lt
  have O2 := O1.on b2 O1.lt
  have S2 := S1.up b2
  have T2 := T1.up b2
  have U2 := U1.up b2
  clear B1 X1 P1 O1 S1 T1 U1
  clear b2
  obtain ⟨x_0, x_1, x_2, x_3, x_4, x_5, x_6, x_7, x_8, x_9, x_10, x_11, x_12⟩ := id X2.rb
  obtain ⟨p_0, p_1, p_2, p_3, p_4, p_5, p_6, p_7, p_8, p_9, p_10⟩ := id P2
  obtain ⟨o_0, o_1, o_2, o_3, o_4, o_5, o_6, o_7, o_8, o_9, o_10⟩ := id O2.sb
  go_wp2_with fail
  clear x_0 x_1 x_2 x_3 x_4 x_5 x_6 x_7 x_8 x_9 x_10 x_11 x_12 p_0 p_1 p_2 p_3 p_4 p_5 p_6 p_7 p_8 p_9 p_10 o_0 o_1 o_2 o_3 o_4 o_5 o_6 o_7 o_8 o_9 o_10
  refine (HG _).out.mono ?_
  rintro e w3 ⟨rfl, b3⟩
  have B3 := B2.trans (b3.mono B2.size)
  have X3 := X2.on b3 X2.lt
  have P3 := P2.on b3 P2.lt
  have O3 := O2.on b3 O2.lt
  have S3 := S2.up b3
  have T3 := T2.up b3
  have U3 := U2.up b3
  clear B2 X2 P2 O2 S2 T2 U2
  clear b3
  obtain ⟨x_0, x_1, x_2, x_3, x_4, x_5, x_6, x_7, x_8, x_9, x_10, x_11, x_12⟩ := id X3.rb
  obtain ⟨p_0, p_1, p_2, p_3, p_4, p_5, p_6, p_7, p_8, p_9, p_10⟩ := id P3
  obtain ⟨o_0, o_1, o_2, o_3, o_4, o_5, o_6, o_7, o_8, o_9, o_10⟩ := id O3.sb
  go_wp2_with fail
  clear x_0 x_1 x_2 x_3 x_4 x_5 x_6 x_7 x_8 x_9 x_10 x_11 x_12 p_0 p_1 p_2 p_3 p_4 p_5 p_6 p_7 p_8 p_9 p_10 o_0 o_1 o_2 o_3 o_4 o_5 o_6 o_7 o_8 o_9 o_10
  refine (HK _).out.mono ?_
  rintro e w4 ⟨rfl, b4⟩
  have B4 := B3.trans (b4.mono B3.size)
  have X4 := X3.on b4 X3.lt
  have P4 := P3.on b4 P3.lt
  have O4 := O3.on b4 O3.lt
  have S4 := S3.up b4
  have T4 := T3.up b4
  have U4 := U3.up b4
  clear B3 X3 P3 O3 S3 T3 U3
  clear b4
  obtain ⟨x_0, x_1, x_2, x_3, x_4, x_5, x_6, x_7, x_8, x_9, x_10, x_11, x_12⟩ := id X4.rb
  obtain ⟨p_0, p_1, p_2, p_3, p_4, p_5, p_6, p_7, p_8, p_9, p_10⟩ := id P4
  obtain ⟨o_0, o_1, o_2, o_3, o_4, o_5, o_6, o_7, o_8, o_9, o_10⟩ := id O4.sb
  go_wp2_with fail
  clear x_0 x_1 x_2 x_3 x_4 x_5 x_6 x_7 x_8 x_9 x_10 x_11 x_12 p_0 p_1 p_2 p_3 p_4 p_5 p_6 p_7 p_8 p_9 p_10 o_0 o_1 o_2 o_3 o_4 o_5 o_6 o_7 o_8 o_9 o_10
  refine (HC _).out.mono ?_
  rintro e w5 ⟨rfl, b5⟩
  have B5 := B4.trans (b5.mono B4.size)
  have X5 := X4.on b5 X4.lt
  have P5 := P4.on b5 P4.lt
  have O5 := O4.on b5 O4.lt
  have S5 := S4.up b5
  have T5 := T4.up b5
  have U5 := U4.up b5
  clear B4 X4 P4 O4 S4 T4 U4
  clear b5
  obtain ⟨x_0, x_1, x_2, x_3, x_4, x_5, x_6, x_7, x_8, x_9, x_10, x_11, x_12⟩ := id X5.rb
  obtain ⟨p_0, p_1, p_2, p_3, p_4, p_5, p_6, p_7, p_8, p_9, p_10⟩ := id P5
  obtain ⟨o_0, o_1, o_2, o_3, o_4, o_5, o_6, o_7, o_8, o_9, o_10⟩ := id O5.sb
  go_wp2_with fail
  clear x_0 x_1 x_2 x_3 x_4 x_5 x_6 x_7 x_8 x_9 x_10 x_11 x_12 p_0 p_1 p_2 p_3 p_4 p_5 p_6 p_7 p_8 p_9 p_10 o_0 o_1 o_2 o_3 o_4 o_5 o_6 o_7 o_8 o_9 o_10
  refine (HD _ S5 T5).out.mono ?_
  rintro e w6 ⟨A9, c9, rfl, f6, b6⟩
  have B6 := B5.trans (b6.mono B5.size)
  have X6 := X5.on b6 X5.lt
  have P6 := P5.on b6 P5.lt
  have O6 := O5.on b6 O5.lt
  have S6 := S5.up b6
  have T6 := T5.up b6
  have U6 := U5.up b6
  clear B5 X5 P5 O5 S5 T5 U5
  clear b6
  obtain ⟨x_0, x_1, x_2, x_3, x_4, x_5, x_6, x_7, x_8, x_9, x_10, x_11, x_12⟩ := id X6.rb
  obtain ⟨p_0, p_1, p_2, p_3, p_4, p_5, p_6, p_7, p_8, p_9, p_10⟩ := id P6
  obtain ⟨o_0, o_1, o_2, o_3, o_4, o_5, o_6, o_7, o_8, o_9, o_10⟩ := id O6.sb
  have Xl6 := X6.lt
  have Pl6 := P6.lt
  have Ol6 := O6.lt
  go_wp2_with fail
  clear x_0 x_1 x_2 x_3 x_4 x_5 x_6 x_7 x_8 x_9 x_10 x_11 x_12 p_0 p_1 p_2 p_3 p_4 p_5 p_6 p_7 p_8 p_9 p_10 o_0 o_1 o_2 o_3 o_4 o_5 o_6 o_7 o_8 o_9 o_10
  clear Xl6 Pl6 Ol6
  have B7 := B6.alloc B6.size (.cells (rcs r A9 c9) 32)
  have a7 : Below w6.heap.size w6 (w6.alloc (.cells (rcs r A9 c9) 32)) := (Below.refl _ _).alloc (Nat.le_refl _) _
  have X7 := X6.old (.cells (rcs r A9 c9) 32)
  have P7 := P6.old (.cells (rcs r A9 c9) 32)
  have O7 := O6.old (.cells (rcs r A9 c9) 32)
  have S7 := S6.up a7
  have T7 := T6.up a7
  have U7 := U6.up a7
  have Y7 := rx_new w6 r A9 c9
  have V7 := f6.on a7
  clear a7 B6 X6 P6 O6 S6 T6 U6 f6
  generalize (w6.alloc (.cells (rcs r A9 c9) 32)) = w7 at *
  refine (HS _ A9 A c9 c V7.sl S7).out.mono ?_
  rintro e w8 ⟨rfl, b8⟩
  have B8 := B7.trans (b8.mono B7.size)
  have X8 := X7.on b8 X7.lt
  have P8 := P7.on b8 P7.lt
  have O8 := O7.on b8 O7.lt
  have Y8 := Y7.on b8 Y7.lt
  have S8 := S7.up b8
  have T8 := T7.up b8
  have U8 := U7.up b8
  have V8 := V7.on b8
  clear B7 X7 P7 O7 Y7 S7 T7 U7 V7
  clear b8
  obtain ⟨x_0, x_1, x_2, x_3, x_4, x_5, x_6, x_7, x_8, x_9, x_10, x_11, x_12⟩ := id X8.rb
  obtain ⟨p_0, p_1, p_2, p_3, p_4, p_5, p_6, p_7, p_8, p_9, p_10⟩ := id P8
  obtain ⟨o_0, o_1, o_2, o_3, o_4, o_5, o_6, o_7, o_8, o_9, o_10⟩ := id O8.sb
  obtain ⟨y_0, y_1, y_2, y_3, y_4, y_5, y_6, y_7, y_8, y_9, y_10, y_11, y_12⟩ := id Y8.rb
  go_wp2
  go_ret
  exact ⟨rfl, B8⟩

set_option maxHeartbeats 4000000 in
theorem votes_go (r : Rd) (p o : Sd) (A A' A'' : Option Addr) (c c' c'' : Nat) (w : World) (hs : At.Sl w w.heap.size .i64 A r.xs) (hs' : At.Sl w w.heap.size .i64 A' p.xs) (hs'' : At.Sl w w.heap.size .i64 A'' o.xs) (hf : fw r = true) (hg : decide ((p.xs.length : Int) ≤ 50) = true) (hk : decide ((o.xs.length : Int) ≤ 50) = true) (h0 : ¬ p.g < 1) (h2 : ¬ 2 < p.g) (hm : ¬ 0 < Ba.cm r.vn r.vb r.pn r.pb) (hd : db r p = true) (ho : (o.g == 1) = false) : Calls Try.prog 4 #[rv r A c, sv p A' c', sv o A'' c''] w (UpPost w) := by
  have HA : ∀ W, Hid (Calls Try.prog 6 #[] W (UpPost W)) := fun W => awake_any W
  have HF : ∀ W, Hid (Calls Try.prog 11 #[rv r A c] W (BoolPost W (fw r))) := fun W => few9_any r A c W
  have HG : ∀ W, Hid (Calls Try.prog 7 #[av p.q A' p.xs.length c'] W (At.BoolPost W (decide ((p.xs.length : Int) ≤ 50)))) := fun W => At.few_any p.q A' p.xs.length c' W
  have HK : ∀ W, Hid (Calls Try.prog 7 #[av o.q A'' o.xs.length c''] W (At.BoolPost W (decide ((o.xs.length : Int) ≤ 50)))) := fun W => At.few_any o.q A'' o.xs.length c'' W
  rw [hf] at HF
  rw [hg] at HG
  rw [hk] at HK
  have HC : ∀ W, Hid (Calls Try.prog 9 #[bv r.vn r.vb, bv r.pn r.pb] W (Ba.IntPost W (Ba.cm r.vn r.vb r.pn r.pb))) := fun W => Ba.cmp_any r.vn r.vb r.pn r.pb W
  have l1 : r.xs.length ≤ 50 := fw_le hf
  have l2 : p.xs.length ≤ 50 := by have := of_decide_eq_true hg; omega
  have l3 : o.xs.length ≤ 50 := by have := of_decide_eq_true hk; omega
  have HD : ∀ W, At.Sl W W.heap.size .i64 A r.xs → At.Sl W W.heap.size .i64 A' p.xs → Hid (Calls Try.prog 8 #[rv r A c, sv p A' c'] W (VotePost W (ds r p) (db r p))) := fun W g g' => does_any r p A A' c c' W g g' (by omega) (by omega)
  obtain ⟨e1, e2, e3, e4, e5, e6⟩ := go_has (r := r) (p := p) h0 h2 hm hd
  have l4 : (ds r p).xs.length ≤ 50 := ds_le l1 l2
  rw [hd] at HD
  clear hd
  generalize ds r p = m at *
  have HS : ∀ W A1 A2 c1 c2, At.Sl W W.heap.size .i64 A1 m.xs → At.Sl W W.heap.size .i64 A2 m.xs → Hid (Calls Try.prog 10 #[rv m A1 c1, rv m A2 c2] W (BoolPost W true)) := fun W A1 A2 c1 c2 g g' => by
    have := same_any m m A1 A2 c1 c2 W g g' (by omega) (by omega)
    rw [sm_self] at this
    exact this
  have HD2 : ∀ W A9 c9, At.Sl W W.heap.size .i64 A9 m.xs → At.Sl W W.heap.size .i64 A' p.xs → Hid (Calls Try.prog 8 #[rv m A9 c9, sv p A' c'] W (VotePost W m true)) := fun W A9 c9 g g' => by
    have := does_any m p A9 A' c9 c' W g g' (by omega) (by omega)
    rw [(again h0 h2 e1 e2 e3 e4 e5 e6).1, (again h0 h2 e1 e2 e3 e4 e5 e6).2] at this
    exact this
  have HD3 : ∀ W A9 c9, At.Sl W W.heap.size .i64 A9 m.xs → At.Sl W W.heap.size .i64 A'' o.xs → Hid (Calls Try.prog 8 #[rv m A9 c9, .agg #[.int .i64 o.g, .int .i64 p.x, .int .i64 p.y, .int .i64 o.u, .int .i64 o.s, .int .i64 o.k, .int .i64 o.h, .int .i64 o.n, .string o.t, .int .i64 o.q, .slice A'' o.xs.length c'']] W (VotePost W (ds m ⟨o.g, p.x, p.y, o.u, o.s, o.k, o.h, o.n, o.t, o.q, o.xs⟩) (db m ⟨o.g, p.x, p.y, o.u, o.s, o.k, o.h, o.n, o.t, o.q, o.xs⟩))) := fun W A9 c9 g g' => does_any m ⟨o.g, p.x, p.y, o.u, o.s, o.k, o.h, o.n, o.t, o.q, o.xs⟩ A9 A'' c9 c'' W g g' (by omega) (by show o.xs.length ≤ 1000; omega)
  generalize ds m ⟨o.g, p.x, p.y, o.u, o.s, o.k, o.h, o.n, o.t, o.q, o.xs⟩ = z at *
  have ho' : (o.g != 1) = true := by simp [bne, ho]
  generalize db m ⟨o.g, p.x, p.y, o.u, o.s, o.k, o.h, o.n, o.t, o.q, o.xs⟩ = L at *
  have he1 : ((m.vn == p.x) && (m.vb == p.y)) = true := by simp [e3, e4]
  have he2 : ((m.pn == p.x) && (m.pb == p.y)) = true := by simp [e1, e2]
  clear e1 e2 e3 e4 e5 e6 l4
  generalize Ba.cm r.vn r.vb r.pn r.pb = m1 at *
  clear hf hg hk l1 l2 l3
  have X0 : Rx (((w.alloc (.cells (rcs r A c) 32)).alloc (.cells (scs p A' c') 35)).alloc (.cells (scs o A'' c'') 35)) (w.heap.size) r A c := by
    have h0 := rx_new w r A c
    exact ((h0.old _).old _)
  have P0 : Sb (((w.alloc (.cells (rcs r A c) 32)).alloc (.cells (scs p A' c') 35)).alloc (.cells (scs o A'' c'') 35)) (w.heap.size + 1) p A' c' := by
    have h0 := sb_new (w.alloc (.cells (rcs r A c) 32)) p A' c'
    rw [show (w.alloc (.cells (rcs r A c) 32)).heap.size = w.heap.size + 1 by simp] at h0
    exact (h0.old _)
  have O0 : Sx (((w.alloc (.cells (rcs r A c) 32)).alloc (.cells (scs p A' c') 35)).alloc (.cells (scs o A'' c'') 35)) (w.heap.size + 1 + 1) o A'' c'' := by
    have h0 := sx_new ((w.alloc (.cells (rcs r A c) 32)).alloc (.cells (scs p A' c') 35)) o A'' c''
    rw [show ((w.alloc (.cells (rcs r A c) 32)).alloc (.cells (scs p A' c') 35)).heap.size = w.heap.size + 1 + 1 by simp] at h0
    exact h0
  have B0 : Below w.heap.size w (((w.alloc (.cells (rcs r A c) 32)).alloc (.cells (scs p A' c') 35)).alloc (.cells (scs o A'' c'') 35)) := ((((Below.refl _ _).alloc (Nat.le_refl _) _).alloc (by first | (simp; done) | (simp; omega)) _).alloc (by first | (simp; done) | (simp; omega)) _)
  have S0 := hs.to B0 B0.size
  have T0 := hs'.to B0 B0.size
  have U0 := hs''.to B0 B0.size
  go_enter Try.func4, Try.ntmps4
  go_wp2_with fail
  generalize (((w.alloc (.cells (rcs r A c) 32)).alloc (.cells (scs p A' c') 35)).alloc (.cells (scs o A'' c'') 35)) = W0 at *
  refine (HA _).out.mono ?_
  rintro e w1 ⟨rfl, b1⟩
  have B1 := B0.trans (b1.mono B0.size)
  have X1 := X0.on b1 X0.lt
  have P1 := P0.on b1 P0.lt
  have O1 := O0.on b1 O0.lt
  have S1 := S0.up b1
  have T1 := T0.up b1
  have U1 := U0.up b1
  clear B0 X0 P0 O0 S0 T0 U0
  clear b1
  obtain ⟨x_0, x_1, x_2, x_3, x_4, x_5, x_6, x_7, x_8, x_9, x_10, x_11, x_12⟩ := id X1.rb
  obtain ⟨p_0, p_1, p_2, p_3, p_4, p_5, p_6, p_7, p_8, p_9, p_10⟩ := id P1
  obtain ⟨o_0, o_1, o_2, o_3, o_4, o_5, o_6, o_7, o_8, o_9, o_10⟩ := id O1.sb
  go_wp2_with fail
  clear x_0 x_1 x_2 x_3 x_4 x_5 x_6 x_7 x_8 x_9 x_10 x_11 x_12 p_0 p_1 p_2 p_3 p_4 p_5 p_6 p_7 p_8 p_9 p_10 o_0 o_1 o_2 o_3 o_4 o_5 o_6 o_7 o_8 o_9 o_10
  refine (HF _).out.mono ?_
  rintro e w2 ⟨rfl, b2⟩
  have B2 := B1.trans (b2.mono B1.size)
  have X2 := X1.on b2 X1.lt
  have P2 := P1.on b2 P1.lt
  have O2 := O1.on b2 O1.lt
  have S2 := S1.up b2
  have T2 := T1.up b2
  have U2 := U1.up b2
  clear B1 X1 P1 O1 S1 T1 U1
  clear b2
  obtain ⟨x_0, x_1, x_2, x_3, x_4, x_5, x_6, x_7, x_8, x_9, x_10, x_11, x_12⟩ := id X2.rb
  obtain ⟨p_0, p_1, p_2, p_3, p_4, p_5, p_6, p_7, p_8, p_9, p_10⟩ := id P2
  obtain ⟨o_0, o_1, o_2, o_3, o_4, o_5, o_6, o_7, o_8, o_9, o_10⟩ := id O2.sb
  go_wp2_with fail
  clear x_0 x_1 x_2 x_3 x_4 x_5 x_6 x_7 x_8 x_9 x_10 x_11 x_12 p_0 p_1 p_2 p_3 p_4 p_5 p_6 p_7 p_8 p_9 p_10 o_0 o_1 o_2 o_3 o_4 o_5 o_6 o_7 o_8 o_9 o_10
  refine (HG _).out.mono ?_
  rintro e w3 ⟨rfl, b3⟩
  have B3 := B2.trans (b3.mono B2.size)
  have X3 := X2.on b3 X2.lt
  have P3 := P2.on b3 P2.lt
  have O3 := O2.on b3 O2.lt
  have S3 := S2.up b3
  have T3 := T2.up b3
  have U3 := U2.up b3
  clear B2 X2 P2 O2 S2 T2 U2
  clear b3
  obtain ⟨x_0, x_1, x_2, x_3, x_4, x_5, x_6, x_7, x_8, x_9, x_10, x_11, x_12⟩ := id X3.rb
  obtain ⟨p_0, p_1, p_2, p_3, p_4, p_5, p_6, p_7, p_8, p_9, p_10⟩ := id P3
  obtain ⟨o_0, o_1, o_2, o_3, o_4, o_5, o_6, o_7, o_8, o_9, o_10⟩ := id O3.sb
  go_wp2_with fail
  clear x_0 x_1 x_2 x_3 x_4 x_5 x_6 x_7 x_8 x_9 x_10 x_11 x_12 p_0 p_1 p_2 p_3 p_4 p_5 p_6 p_7 p_8 p_9 p_10 o_0 o_1 o_2 o_3 o_4 o_5 o_6 o_7 o_8 o_9 o_10
  refine (HK _).out.mono ?_
  rintro e w4 ⟨rfl, b4⟩
  have B4 := B3.trans (b4.mono B3.size)
  have X4 := X3.on b4 X3.lt
  have P4 := P3.on b4 P3.lt
  have O4 := O3.on b4 O3.lt
  have S4 := S3.up b4
  have T4 := T3.up b4
  have U4 := U3.up b4
  clear B3 X3 P3 O3 S3 T3 U3
  clear b4
  obtain ⟨x_0, x_1, x_2, x_3, x_4, x_5, x_6, x_7, x_8, x_9, x_10, x_11, x_12⟩ := id X4.rb
  obtain ⟨p_0, p_1, p_2, p_3, p_4, p_5, p_6, p_7, p_8, p_9, p_10⟩ := id P4
  obtain ⟨o_0, o_1, o_2, o_3, o_4, o_5, o_6, o_7, o_8, o_9, o_10⟩ := id O4.sb
  go_wp2_with fail
  clear x_0 x_1 x_2 x_3 x_4 x_5 x_6 x_7 x_8 x_9 x_10 x_11 x_12 p_0 p_1 p_2 p_3 p_4 p_5 p_6 p_7 p_8 p_9 p_10 o_0 o_1 o_2 o_3 o_4 o_5 o_6 o_7 o_8 o_9 o_10
  refine (HC _).out.mono ?_
  rintro e w5 ⟨rfl, b5⟩
  have B5 := B4.trans (b5.mono B4.size)
  have X5 := X4.on b5 X4.lt
  have P5 := P4.on b5 P4.lt
  have O5 := O4.on b5 O4.lt
  have S5 := S4.up b5
  have T5 := T4.up b5
  have U5 := U4.up b5
  clear B4 X4 P4 O4 S4 T4 U4
  clear b5
  obtain ⟨x_0, x_1, x_2, x_3, x_4, x_5, x_6, x_7, x_8, x_9, x_10, x_11, x_12⟩ := id X5.rb
  obtain ⟨p_0, p_1, p_2, p_3, p_4, p_5, p_6, p_7, p_8, p_9, p_10⟩ := id P5
  obtain ⟨o_0, o_1, o_2, o_3, o_4, o_5, o_6, o_7, o_8, o_9, o_10⟩ := id O5.sb
  have olt := O5.lt
  go_wp2_with fail
  clear x_0 x_1 x_2 x_3 x_4 x_5 x_6 x_7 x_8 x_9 x_10 x_11 x_12 p_0 p_1 p_2 p_3 p_4 p_5 p_6 p_7 p_8 p_9 p_10 o_0 o_1 o_2 o_3 o_4 o_5 o_6 o_7 o_8 o_9 o_10
  refine (HD _ S5 T5).out.mono ?_
  rintro e w6 ⟨A9, c9, rfl, f6, b6⟩
  have B6 := B5.trans (b6.mono B5.size)
  have X6 := X5.on b6 X5.lt
  have P6 := P5.on b6 P5.lt
  have O6 := O5.on b6 O5.lt
  have S6 := S5.up b6
  have T6 := T5.up b6
  have U6 := U5.up b6
  clear B5 X5 P5 O5 S5 T5 U5
  clear b6
  obtain ⟨x_0, x_1, x_2, x_3, x_4, x_5, x_6, x_7, x_8, x_9, x_10, x_11, x_12⟩ := id X6.rb
  obtain ⟨p_0, p_1, p_2, p_3, p_4, p_5, p_6, p_7, p_8, p_9, p_10⟩ := id P6
  obtain ⟨o_0, o_1, o_2, o_3, o_4, o_5, o_6, o_7, o_8, o_9, o_10⟩ := id O6.sb
  have olt6 := O6.lt
  have Xl6 := X6.lt
  have Pl6 := P6.lt
  have Ol6 := O6.lt
  go_wp2_with fail
  clear x_0 x_1 x_2 x_3 x_4 x_5 x_6 x_7 x_8 x_9 x_10 x_11 x_12 p_0 p_1 p_2 p_3 p_4 p_5 p_6 p_7 p_8 p_9 p_10 o_0 o_1 o_2 o_3 o_4 o_5 o_6 o_7 o_8 o_9 o_10
  clear Xl6 Pl6 Ol6
  have B7 := B6.alloc B6.size (.cells (rcs m A9 c9) 32)
  have a7 : Below w6.heap.size w6 (w6.alloc (.cells (rcs m A9 c9) 32)) := (Below.refl _ _).alloc (Nat.le_refl _) _
  have X7 := X6.old (.cells (rcs m A9 c9) 32)
  have P7 := P6.old (.cells (rcs m A9 c9) 32)
  have O7 := O6.old (.cells (rcs m A9 c9) 32)
  have S7 := S6.up a7
  have T7 := T6.up a7
  have U7 := U6.up a7
  have Y7 := rx_new w6 m A9 c9
  have V7 := f6.on a7
  clear a7 B6 X6 P6 O6 S6 T6 U6 f6
  generalize (w6.alloc (.cells (rcs m A9 c9) 32)) = w7 at *
  clear X7 S7
  have olt7 := O7.lt
  refine (HD2 _ A9 c9 V7.sl T7).out.mono ?_
  rintro e w8 ⟨A7, c7, rfl, f8, b8⟩
  have B8 := B7.trans (b8.mono B7.size)
  have P8 := P7.on b8 P7.lt
  have O8 := O7.on b8 O7.lt
  have Y8 := Y7.on b8 Y7.lt
  have T8 := T7.up b8
  have U8 := U7.up b8
  have V8 := V7.on b8
  clear B7 P7 O7 Y7 T7 U7 V7
  clear b8
  clear T8
  obtain ⟨p_0, p_1, p_2, p_3, p_4, p_5, p_6, p_7, p_8, p_9, p_10⟩ := id P8
  obtain ⟨o_0, o_1, o_2, o_3, o_4, o_5, o_6, o_7, o_8, o_9, o_10⟩ := id O8.sb
  obtain ⟨y_0, y_1, y_2, y_3, y_4, y_5, y_6, y_7, y_8, y_9, y_10, y_11, y_12⟩ := id Y8.rb
  have plt := P8.lt
  have olt2 := O8.lt
  have ylt := Y8.lt
  have fo := O8.free
  go_wp2_with fail
  clear p_0 p_1 p_2 p_3 p_4 p_5 p_6 p_7 p_8 p_9 p_10 o_0 o_1 o_2 o_3 o_4 o_5 o_6 o_7 o_8 o_9 o_10 y_0 y_1 y_2 y_3 y_4 y_5 y_6 y_7 y_8 y_9 y_10 y_11 y_12
  have hsz : w8.heap.size = ((w8.setCell ⟨w.heap.size + 1 + 1, 1, none⟩ (.int .i64 p.x)).setCell ⟨w.heap.size + 1 + 1, 2, none⟩ (.int .i64 p.y)).heap.size := by simp
  have Bs9 := (B8.setCell (p := ⟨w.heap.size + 1 + 1, 1, none⟩) (by dsimp only; omega) (.int .i64 p.x)).setCell (p := ⟨w.heap.size + 1 + 1, 2, none⟩) (by dsimp only; omega) (.int .i64 p.y)
  have B9 := Bs9.alloc Bs9.size (.cells (rcs m A7 c7) 32)
  have P9 := ((P8.other (q := ⟨w.heap.size + 1 + 1, 1, none⟩) (by dsimp only; omega) (.int .i64 p.x)).other (q := ⟨w.heap.size + 1 + 1, 2, none⟩) (by dsimp only; omega) (.int .i64 p.y)).old (.cells (rcs m A7 c7) 32)
  have O9 := (O8.bal p.x p.y).old (.cells (rcs m A7 c7) 32)
  have Y9 := ((Y8.other (p := ⟨w.heap.size + 1 + 1, 1, none⟩) (by dsimp only; omega) (.int .i64 p.x)).other (p := ⟨w.heap.size + 1 + 1, 2, none⟩) (by dsimp only; omega) (.int .i64 p.y)).old (.cells (rcs m A7 c7) 32)
  have a9 : Below ((w8.setCell ⟨w.heap.size + 1 + 1, 1, none⟩ (.int .i64 p.x)).setCell ⟨w.heap.size + 1 + 1, 2, none⟩ (.int .i64 p.y)).heap.size ((w8.setCell ⟨w.heap.size + 1 + 1, 1, none⟩ (.int .i64 p.x)).setCell ⟨w.heap.size + 1 + 1, 2, none⟩ (.int .i64 p.y)) (((w8.setCell ⟨w.heap.size + 1 + 1, 1, none⟩ (.int .i64 p.x)).setCell ⟨w.heap.size + 1 + 1, 2, none⟩ (.int .i64 p.y)).alloc (.cells (rcs m A7 c7) 32)) := (Below.refl _ _).alloc (Nat.le_refl _) _
  have V9 := ((V8.set (p := ⟨w.heap.size + 1 + 1, 1, none⟩) (by dsimp only; omega) (.int .i64 p.x)).set (p := ⟨w.heap.size + 1 + 1, 2, none⟩) (by dsimp only; omega) (.int .i64 p.y)).on a9
  have N9 := ((f8.set (p := ⟨w.heap.size + 1 + 1, 1, none⟩) (by dsimp only; omega) (.int .i64 p.x)).set (p := ⟨w.heap.size + 1 + 1, 2, none⟩) (by dsimp only; omega) (.int .i64 p.y)).on a9
  have U9 := hs''.to B9 B9.size
  have Q9 := rx_new ((w8.setCell ⟨w.heap.size + 1 + 1, 1, none⟩ (.int .i64 p.x)).setCell ⟨w.heap.size + 1 + 1, 2, none⟩ (.int .i64 p.y)) m A7 c7
  rw [← hsz] at Q9
  clear a9 Bs9 B8 P8 O8 Y8 V8 f8 U8 hsz fo
  generalize (((w8.setCell ⟨w.heap.size + 1 + 1, 1, none⟩ (.int .i64 p.x)).setCell ⟨w.heap.size + 1 + 1, 2, none⟩ (.int .i64 p.y)).alloc (.cells (rcs m A7 c7) 32)) = w9 at *
  generalize w8.heap.size = yb at *
  refine (HD3 _ A9 c9 V9.sl U9).out.mono ?_
  rintro e w10 ⟨A5, c5, rfl, f10, b10⟩
  have B10 := B9.trans (b10.mono B9.size)
  have P10 := P9.on b10 P9.lt
  have O10 := O9.on b10 O9.lt
  have Y10 := Y9.on b10 Y9.lt
  have Q10 := Q9.on b10 Q9.lt
  have U10 := U9.up b10
  have V10 := V9.on b10
  have N10 := N9.on b10
  clear B9 P9 O9 Y9 Q9 U9 V9 N9
  clear b10
  clear U10
  obtain ⟨p_0, p_1, p_2, p_3, p_4, p_5, p_6, p_7, p_8, p_9, p_10⟩ := id P10
  obtain ⟨o_0, o_1, o_2, o_3, o_4, o_5, o_6, o_7, o_8, o_9, o_10⟩ := id O10.sb
  obtain ⟨y_0, y_1, y_2, y_3, y_4, y_5, y_6, y_7, y_8, y_9, y_10, y_11, y_12⟩ := id Y10.rb
  obtain ⟨q_0, q_1, q_2, q_3, q_4, q_5, q_6, q_7, q_8, q_9, q_10, q_11, q_12⟩ := id Q10.rb
  have Pl10 := P10.lt
  have Ol10 := O10.lt
  have Yl10 := Y10.lt
  have Ql10 := Q10.lt
  go_wp2_with fail
  clear p_0 p_1 p_2 p_3 p_4 p_5 p_6 p_7 p_8 p_9 p_10 o_0 o_1 o_2 o_3 o_4 o_5 o_6 o_7 o_8 o_9 o_10 y_0 y_1 y_2 y_3 y_4 y_5 y_6 y_7 y_8 y_9 y_10 y_11 y_12 q_0 q_1 q_2 q_3 q_4 q_5 q_6 q_7 q_8 q_9 q_10 q_11 q_12
  clear Pl10 Ol10 Yl10 Ql10
  have B11 := B10.alloc B10.size (.cells (rcs z A5 c5) 32)
  have a11 : Below w10.heap.size w10 (w10.alloc (.cells (rcs z A5 c5) 32)) := (Below.refl _ _).alloc (Nat.le_refl _) _
  have P11 := P10.old (.cells (rcs z A5 c5) 32)
  have O11 := O10.old (.cells (rcs z A5 c5) 32)
  have Y11 := Y10.old (.cells (rcs z A5 c5) 32)
  have Q11 := Q10.old (.cells (rcs z A5 c5) 32)
  have Z11 := rx_new w10 z A5 c5
  have V11 := V10.on a11
  have N11 := N10.on a11
  have M11 := f10.on a11
  clear a11 B10 P10 O10 Y10 Q10 V10 N10 f10
  generalize (w10.alloc (.cells (rcs z A5 c5) 32)) = w11 at *
  refine (HS _ A7 A9 c7 c9 N11.sl V11.sl).out.mono ?_
  rintro e w12 ⟨rfl, b12⟩
  have B12 := B11.trans (b12.mono B11.size)
  have P12 := P11.on b12 P11.lt
  have O12 := O11.on b12 O11.lt
  have Y12 := Y11.on b12 Y11.lt
  have Q12 := Q11.on b12 Q11.lt
  have Z12 := Z11.on b12 Z11.lt
  have V12 := V11.on b12
  have N12 := N11.on b12
  have M12 := M11.on b12
  clear B11 P11 O11 Y11 Q11 Z11 V11 N11 M11
  clear b12
  obtain ⟨p_0, p_1, p_2, p_3, p_4, p_5, p_6, p_7, p_8, p_9, p_10⟩ := id P12
  obtain ⟨o_0, o_1, o_2, o_3, o_4, o_5, o_6, o_7, o_8, o_9, o_10⟩ := id O12.sb
  obtain ⟨y_0, y_1, y_2, y_3, y_4, y_5, y_6, y_7, y_8, y_9, y_10, y_11, y_12⟩ := id Y12.rb
  obtain ⟨q_0, q_1, q_2, q_3, q_4, q_5, q_6, q_7, q_8, q_9, q_10, q_11, q_12⟩ := id Q12.rb
  obtain ⟨z_0, z_1, z_2, z_3, z_4, z_5, z_6, z_7, z_8, z_9, z_10, z_11, z_12⟩ := id Z12.rb
  go_wp2
  go_ret
  exact ⟨rfl, B12⟩

set_option maxHeartbeats 4000000 in
theorem votes_one (r : Rd) (p o : Sd) (A A' A'' : Option Addr) (c c' c'' : Nat) (w : World) (hs : At.Sl w w.heap.size .i64 A r.xs) (hs' : At.Sl w w.heap.size .i64 A' p.xs) (hs'' : At.Sl w w.heap.size .i64 A'' o.xs) (hf : fw r = true) (hg : decide ((p.xs.length : Int) ≤ 50) = true) (hk : decide ((o.xs.length : Int) ≤ 50) = true) (h0 : ¬ p.g < 1) (h2 : ¬ 2 < p.g) (hm : ¬ 0 < Ba.cm r.vn r.vb r.pn r.pb) (hd : db r p = true) (ho : (o.g == 1) = true) : Calls Try.prog 4 #[rv r A c, sv p A' c', sv o A'' c''] w (UpPost w) := by
  have HA : ∀ W, Hid (Calls Try.prog 6 #[] W (UpPost W)) := fun W => awake_any W
  have HF : ∀ W, Hid (Calls Try.prog 11 #[rv r A c] W (BoolPost W (fw r))) := fun W => few9_any r A c W
  have HG : ∀ W, Hid (Calls Try.prog 7 #[av p.q A' p.xs.length c'] W (At.BoolPost W (decide ((p.xs.length : Int) ≤ 50)))) := fun W => At.few_any p.q A' p.xs.length c' W
  have HK : ∀ W, Hid (Calls Try.prog 7 #[av o.q A'' o.xs.length c''] W (At.BoolPost W (decide ((o.xs.length : Int) ≤ 50)))) := fun W => At.few_any o.q A'' o.xs.length c'' W
  rw [hf] at HF
  rw [hg] at HG
  rw [hk] at HK
  have HC : ∀ W, Hid (Calls Try.prog 9 #[bv r.vn r.vb, bv r.pn r.pb] W (Ba.IntPost W (Ba.cm r.vn r.vb r.pn r.pb))) := fun W => Ba.cmp_any r.vn r.vb r.pn r.pb W
  have l1 : r.xs.length ≤ 50 := fw_le hf
  have l2 : p.xs.length ≤ 50 := by have := of_decide_eq_true hg; omega
  have l3 : o.xs.length ≤ 50 := by have := of_decide_eq_true hk; omega
  have HD : ∀ W, At.Sl W W.heap.size .i64 A r.xs → At.Sl W W.heap.size .i64 A' p.xs → Hid (Calls Try.prog 8 #[rv r A c, sv p A' c'] W (VotePost W (ds r p) (db r p))) := fun W g g' => does_any r p A A' c c' W g g' (by omega) (by omega)
  obtain ⟨e1, e2, e3, e4, e5, e6⟩ := go_has (r := r) (p := p) h0 h2 hm hd
  have l4 : (ds r p).xs.length ≤ 50 := ds_le l1 l2
  rw [hd] at HD
  clear hd
  generalize ds r p = m at *
  have HS : ∀ W A1 A2 c1 c2, At.Sl W W.heap.size .i64 A1 m.xs → At.Sl W W.heap.size .i64 A2 m.xs → Hid (Calls Try.prog 10 #[rv m A1 c1, rv m A2 c2] W (BoolPost W true)) := fun W A1 A2 c1 c2 g g' => by
    have := same_any m m A1 A2 c1 c2 W g g' (by omega) (by omega)
    rw [sm_self] at this
    exact this
  have HD2 : ∀ W A9 c9, At.Sl W W.heap.size .i64 A9 m.xs → At.Sl W W.heap.size .i64 A' p.xs → Hid (Calls Try.prog 8 #[rv m A9 c9, sv p A' c'] W (VotePost W m true)) := fun W A9 c9 g g' => by
    have := does_any m p A9 A' c9 c' W g g' (by omega) (by omega)
    rw [(again h0 h2 e1 e2 e3 e4 e5 e6).1, (again h0 h2 e1 e2 e3 e4 e5 e6).2] at this
    exact this
  have HD3 : ∀ W A9 c9, At.Sl W W.heap.size .i64 A9 m.xs → At.Sl W W.heap.size .i64 A'' o.xs → Hid (Calls Try.prog 8 #[rv m A9 c9, .agg #[.int .i64 o.g, .int .i64 p.x, .int .i64 p.y, .int .i64 o.u, .int .i64 o.s, .int .i64 o.k, .int .i64 o.h, .int .i64 o.n, .string o.t, .int .i64 o.q, .slice A'' o.xs.length c'']] W (VotePost W (ds m ⟨o.g, p.x, p.y, o.u, o.s, o.k, o.h, o.n, o.t, o.q, o.xs⟩) (db m ⟨o.g, p.x, p.y, o.u, o.s, o.k, o.h, o.n, o.t, o.q, o.xs⟩))) := fun W A9 c9 g g' => does_any m ⟨o.g, p.x, p.y, o.u, o.s, o.k, o.h, o.n, o.t, o.q, o.xs⟩ A9 A'' c9 c'' W g g' (by omega) (by show o.xs.length ≤ 1000; omega)
  have e9 : ds m ⟨o.g, p.x, p.y, o.u, o.s, o.k, o.h, o.n, o.t, o.q, o.xs⟩ = m := one_stays h0 h2 e3 e4 e5 (by simpa using ho)
  rw [e9] at HD3
  clear e9
  have ho' : (o.g != 1) = false := by simp [bne, ho]
  generalize db m ⟨o.g, p.x, p.y, o.u, o.s, o.k, o.h, o.n, o.t, o.q, o.xs⟩ = L at *
  have he1 : ((m.vn == p.x) && (m.vb == p.y)) = true := by simp [e3, e4]
  have he2 : ((m.pn == p.x) && (m.pb == p.y)) = true := by simp [e1, e2]
  clear e1 e2 e3 e4 e5 e6 l4
  generalize Ba.cm r.vn r.vb r.pn r.pb = m1 at *
  clear hf hg hk l1 l2 l3
  have X0 : Rx (((w.alloc (.cells (rcs r A c) 32)).alloc (.cells (scs p A' c') 35)).alloc (.cells (scs o A'' c'') 35)) (w.heap.size) r A c := by
    have h0 := rx_new w r A c
    exact ((h0.old _).old _)
  have P0 : Sb (((w.alloc (.cells (rcs r A c) 32)).alloc (.cells (scs p A' c') 35)).alloc (.cells (scs o A'' c'') 35)) (w.heap.size + 1) p A' c' := by
    have h0 := sb_new (w.alloc (.cells (rcs r A c) 32)) p A' c'
    rw [show (w.alloc (.cells (rcs r A c) 32)).heap.size = w.heap.size + 1 by simp] at h0
    exact (h0.old _)
  have O0 : Sx (((w.alloc (.cells (rcs r A c) 32)).alloc (.cells (scs p A' c') 35)).alloc (.cells (scs o A'' c'') 35)) (w.heap.size + 1 + 1) o A'' c'' := by
    have h0 := sx_new ((w.alloc (.cells (rcs r A c) 32)).alloc (.cells (scs p A' c') 35)) o A'' c''
    rw [show ((w.alloc (.cells (rcs r A c) 32)).alloc (.cells (scs p A' c') 35)).heap.size = w.heap.size + 1 + 1 by simp] at h0
    exact h0
  have B0 : Below w.heap.size w (((w.alloc (.cells (rcs r A c) 32)).alloc (.cells (scs p A' c') 35)).alloc (.cells (scs o A'' c'') 35)) := ((((Below.refl _ _).alloc (Nat.le_refl _) _).alloc (by first | (simp; done) | (simp; omega)) _).alloc (by first | (simp; done) | (simp; omega)) _)
  have S0 := hs.to B0 B0.size
  have T0 := hs'.to B0 B0.size
  have U0 := hs''.to B0 B0.size
  go_enter Try.func4, Try.ntmps4
  go_wp2_with fail
  generalize (((w.alloc (.cells (rcs r A c) 32)).alloc (.cells (scs p A' c') 35)).alloc (.cells (scs o A'' c'') 35)) = W0 at *
  refine (HA _).out.mono ?_
  rintro e w1 ⟨rfl, b1⟩
  have B1 := B0.trans (b1.mono B0.size)
  have X1 := X0.on b1 X0.lt
  have P1 := P0.on b1 P0.lt
  have O1 := O0.on b1 O0.lt
  have S1 := S0.up b1
  have T1 := T0.up b1
  have U1 := U0.up b1
  clear B0 X0 P0 O0 S0 T0 U0
  clear b1
  obtain ⟨x_0, x_1, x_2, x_3, x_4, x_5, x_6, x_7, x_8, x_9, x_10, x_11, x_12⟩ := id X1.rb
  obtain ⟨p_0, p_1, p_2, p_3, p_4, p_5, p_6, p_7, p_8, p_9, p_10⟩ := id P1
  obtain ⟨o_0, o_1, o_2, o_3, o_4, o_5, o_6, o_7, o_8, o_9, o_10⟩ := id O1.sb
  go_wp2_with fail
  clear x_0 x_1 x_2 x_3 x_4 x_5 x_6 x_7 x_8 x_9 x_10 x_11 x_12 p_0 p_1 p_2 p_3 p_4 p_5 p_6 p_7 p_8 p_9 p_10 o_0 o_1 o_2 o_3 o_4 o_5 o_6 o_7 o_8 o_9 o_10
  refine (HF _).out.mono ?_
  rintro e w2 ⟨rfl, b2⟩
  have B2 := B1.trans (b2.mono B1.size)
  have X2 := X1.on b2 X1.lt
  have P2 := P1.on b2 P1.lt
  have O2 := O1.on b2 O1.lt
  have S2 := S1.up b2
  have T2 := T1.up b2
  have U2 := U1.up b2
  clear B1 X1 P1 O1 S1 T1 U1
  clear b2
  obtain ⟨x_0, x_1, x_2, x_3, x_4, x_5, x_6, x_7, x_8, x_9, x_10, x_11, x_12⟩ := id X2.rb
  obtain ⟨p_0, p_1, p_2, p_3, p_4, p_5, p_6, p_7, p_8, p_9, p_10⟩ := id P2
  obtain ⟨o_0, o_1, o_2, o_3, o_4, o_5, o_6, o_7, o_8, o_9, o_10⟩ := id O2.sb
  go_wp2_with fail
  clear x_0 x_1 x_2 x_3 x_4 x_5 x_6 x_7 x_8 x_9 x_10 x_11 x_12 p_0 p_1 p_2 p_3 p_4 p_5 p_6 p_7 p_8 p_9 p_10 o_0 o_1 o_2 o_3 o_4 o_5 o_6 o_7 o_8 o_9 o_10
  refine (HG _).out.mono ?_
  rintro e w3 ⟨rfl, b3⟩
  have B3 := B2.trans (b3.mono B2.size)
  have X3 := X2.on b3 X2.lt
  have P3 := P2.on b3 P2.lt
  have O3 := O2.on b3 O2.lt
  have S3 := S2.up b3
  have T3 := T2.up b3
  have U3 := U2.up b3
  clear B2 X2 P2 O2 S2 T2 U2
  clear b3
  obtain ⟨x_0, x_1, x_2, x_3, x_4, x_5, x_6, x_7, x_8, x_9, x_10, x_11, x_12⟩ := id X3.rb
  obtain ⟨p_0, p_1, p_2, p_3, p_4, p_5, p_6, p_7, p_8, p_9, p_10⟩ := id P3
  obtain ⟨o_0, o_1, o_2, o_3, o_4, o_5, o_6, o_7, o_8, o_9, o_10⟩ := id O3.sb
  go_wp2_with fail
  clear x_0 x_1 x_2 x_3 x_4 x_5 x_6 x_7 x_8 x_9 x_10 x_11 x_12 p_0 p_1 p_2 p_3 p_4 p_5 p_6 p_7 p_8 p_9 p_10 o_0 o_1 o_2 o_3 o_4 o_5 o_6 o_7 o_8 o_9 o_10
  refine (HK _).out.mono ?_
  rintro e w4 ⟨rfl, b4⟩
  have B4 := B3.trans (b4.mono B3.size)
  have X4 := X3.on b4 X3.lt
  have P4 := P3.on b4 P3.lt
  have O4 := O3.on b4 O3.lt
  have S4 := S3.up b4
  have T4 := T3.up b4
  have U4 := U3.up b4
  clear B3 X3 P3 O3 S3 T3 U3
  clear b4
  obtain ⟨x_0, x_1, x_2, x_3, x_4, x_5, x_6, x_7, x_8, x_9, x_10, x_11, x_12⟩ := id X4.rb
  obtain ⟨p_0, p_1, p_2, p_3, p_4, p_5, p_6, p_7, p_8, p_9, p_10⟩ := id P4
  obtain ⟨o_0, o_1, o_2, o_3, o_4, o_5, o_6, o_7, o_8, o_9, o_10⟩ := id O4.sb
  go_wp2_with fail
  clear x_0 x_1 x_2 x_3 x_4 x_5 x_6 x_7 x_8 x_9 x_10 x_11 x_12 p_0 p_1 p_2 p_3 p_4 p_5 p_6 p_7 p_8 p_9 p_10 o_0 o_1 o_2 o_3 o_4 o_5 o_6 o_7 o_8 o_9 o_10
  refine (HC _).out.mono ?_
  rintro e w5 ⟨rfl, b5⟩
  have B5 := B4.trans (b5.mono B4.size)
  have X5 := X4.on b5 X4.lt
  have P5 := P4.on b5 P4.lt
  have O5 := O4.on b5 O4.lt
  have S5 := S4.up b5
  have T5 := T4.up b5
  have U5 := U4.up b5
  clear B4 X4 P4 O4 S4 T4 U4
  clear b5
  obtain ⟨x_0, x_1, x_2, x_3, x_4, x_5, x_6, x_7, x_8, x_9, x_10, x_11, x_12⟩ := id X5.rb
  obtain ⟨p_0, p_1, p_2, p_3, p_4, p_5, p_6, p_7, p_8, p_9, p_10⟩ := id P5
  obtain ⟨o_0, o_1, o_2, o_3, o_4, o_5, o_6, o_7, o_8, o_9, o_10⟩ := id O5.sb
  have olt := O5.lt
  go_wp2_with fail
  clear x_0 x_1 x_2 x_3 x_4 x_5 x_6 x_7 x_8 x_9 x_10 x_11 x_12 p_0 p_1 p_2 p_3 p_4 p_5 p_6 p_7 p_8 p_9 p_10 o_0 o_1 o_2 o_3 o_4 o_5 o_6 o_7 o_8 o_9 o_10
  refine (HD _ S5 T5).out.mono ?_
  rintro e w6 ⟨A9, c9, rfl, f6, b6⟩
  have B6 := B5.trans (b6.mono B5.size)
  have X6 := X5.on b6 X5.lt
  have P6 := P5.on b6 P5.lt
  have O6 := O5.on b6 O5.lt
  have S6 := S5.up b6
  have T6 := T5.up b6
  have U6 := U5.up b6
  clear B5 X5 P5 O5 S5 T5 U5
  clear b6
  obtain ⟨x_0, x_1, x_2, x_3, x_4, x_5, x_6, x_7, x_8, x_9, x_10, x_11, x_12⟩ := id X6.rb
  obtain ⟨p_0, p_1, p_2, p_3, p_4, p_5, p_6, p_7, p_8, p_9, p_10⟩ := id P6
  obtain ⟨o_0, o_1, o_2, o_3, o_4, o_5, o_6, o_7, o_8, o_9, o_10⟩ := id O6.sb
  have olt6 := O6.lt
  have Xl6 := X6.lt
  have Pl6 := P6.lt
  have Ol6 := O6.lt
  go_wp2_with fail
  clear x_0 x_1 x_2 x_3 x_4 x_5 x_6 x_7 x_8 x_9 x_10 x_11 x_12 p_0 p_1 p_2 p_3 p_4 p_5 p_6 p_7 p_8 p_9 p_10 o_0 o_1 o_2 o_3 o_4 o_5 o_6 o_7 o_8 o_9 o_10
  clear Xl6 Pl6 Ol6
  have B7 := B6.alloc B6.size (.cells (rcs m A9 c9) 32)
  have a7 : Below w6.heap.size w6 (w6.alloc (.cells (rcs m A9 c9) 32)) := (Below.refl _ _).alloc (Nat.le_refl _) _
  have X7 := X6.old (.cells (rcs m A9 c9) 32)
  have P7 := P6.old (.cells (rcs m A9 c9) 32)
  have O7 := O6.old (.cells (rcs m A9 c9) 32)
  have S7 := S6.up a7
  have T7 := T6.up a7
  have U7 := U6.up a7
  have Y7 := rx_new w6 m A9 c9
  have V7 := f6.on a7
  clear a7 B6 X6 P6 O6 S6 T6 U6 f6
  generalize (w6.alloc (.cells (rcs m A9 c9) 32)) = w7 at *
  clear X7 S7
  have olt7 := O7.lt
  refine (HD2 _ A9 c9 V7.sl T7).out.mono ?_
  rintro e w8 ⟨A7, c7, rfl, f8, b8⟩
  have B8 := B7.trans (b8.mono B7.size)
  have P8 := P7.on b8 P7.lt
  have O8 := O7.on b8 O7.lt
  have Y8 := Y7.on b8 Y7.lt
  have T8 := T7.up b8
  have U8 := U7.up b8
  have V8 := V7.on b8
  clear B7 P7 O7 Y7 T7 U7 V7
  clear b8
  clear T8
  obtain ⟨p_0, p_1, p_2, p_3, p_4, p_5, p_6, p_7, p_8, p_9, p_10⟩ := id P8
  obtain ⟨o_0, o_1, o_2, o_3, o_4, o_5, o_6, o_7, o_8, o_9, o_10⟩ := id O8.sb
  obtain ⟨y_0, y_1, y_2, y_3, y_4, y_5, y_6, y_7, y_8, y_9, y_10, y_11, y_12⟩ := id Y8.rb
  have plt := P8.lt
  have olt2 := O8.lt
  have ylt := Y8.lt
  have fo := O8.free
  go_wp2_with fail
  clear p_0 p_1 p_2 p_3 p_4 p_5 p_6 p_7 p_8 p_9 p_10 o_0 o_1 o_2 o_3 o_4 o_5 o_6 o_7 o_8 o_9 o_10 y_0 y_1 y_2 y_3 y_4 y_5 y_6 y_7 y_8 y_9 y_10 y_11 y_12
  have hsz : w8.heap.size = ((w8.setCell ⟨w.heap.size + 1 + 1, 1, none⟩ (.int .i64 p.x)).setCell ⟨w.heap.size + 1 + 1, 2, none⟩ (.int .i64 p.y)).heap.size := by simp
  have Bs9 := (B8.setCell (p := ⟨w.heap.size + 1 + 1, 1, none⟩) (by dsimp only; omega) (.int .i64 p.x)).setCell (p := ⟨w.heap.size + 1 + 1, 2, none⟩) (by dsimp only; omega) (.int .i64 p.y)
  have B9 := Bs9.alloc Bs9.size (.cells (rcs m A7 c7) 32)
  have P9 := ((P8.other (q := ⟨w.heap.size + 1 + 1, 1, none⟩) (by dsimp only; omega) (.int .i64 p.x)).other (q := ⟨w.heap.size + 1 + 1, 2, none⟩) (by dsimp only; omega) (.int .i64 p.y)).old (.cells (rcs m A7 c7) 32)
  have O9 := (O8.bal p.x p.y).old (.cells (rcs m A7 c7) 32)
  have Y9 := ((Y8.other (p := ⟨w.heap.size + 1 + 1, 1, none⟩) (by dsimp only; omega) (.int .i64 p.x)).other (p := ⟨w.heap.size + 1 + 1, 2, none⟩) (by dsimp only; omega) (.int .i64 p.y)).old (.cells (rcs m A7 c7) 32)
  have a9 : Below ((w8.setCell ⟨w.heap.size + 1 + 1, 1, none⟩ (.int .i64 p.x)).setCell ⟨w.heap.size + 1 + 1, 2, none⟩ (.int .i64 p.y)).heap.size ((w8.setCell ⟨w.heap.size + 1 + 1, 1, none⟩ (.int .i64 p.x)).setCell ⟨w.heap.size + 1 + 1, 2, none⟩ (.int .i64 p.y)) (((w8.setCell ⟨w.heap.size + 1 + 1, 1, none⟩ (.int .i64 p.x)).setCell ⟨w.heap.size + 1 + 1, 2, none⟩ (.int .i64 p.y)).alloc (.cells (rcs m A7 c7) 32)) := (Below.refl _ _).alloc (Nat.le_refl _) _
  have V9 := ((V8.set (p := ⟨w.heap.size + 1 + 1, 1, none⟩) (by dsimp only; omega) (.int .i64 p.x)).set (p := ⟨w.heap.size + 1 + 1, 2, none⟩) (by dsimp only; omega) (.int .i64 p.y)).on a9
  have N9 := ((f8.set (p := ⟨w.heap.size + 1 + 1, 1, none⟩) (by dsimp only; omega) (.int .i64 p.x)).set (p := ⟨w.heap.size + 1 + 1, 2, none⟩) (by dsimp only; omega) (.int .i64 p.y)).on a9
  have U9 := hs''.to B9 B9.size
  have Q9 := rx_new ((w8.setCell ⟨w.heap.size + 1 + 1, 1, none⟩ (.int .i64 p.x)).setCell ⟨w.heap.size + 1 + 1, 2, none⟩ (.int .i64 p.y)) m A7 c7
  rw [← hsz] at Q9
  clear a9 Bs9 B8 P8 O8 Y8 V8 f8 U8 hsz fo
  generalize (((w8.setCell ⟨w.heap.size + 1 + 1, 1, none⟩ (.int .i64 p.x)).setCell ⟨w.heap.size + 1 + 1, 2, none⟩ (.int .i64 p.y)).alloc (.cells (rcs m A7 c7) 32)) = w9 at *
  generalize w8.heap.size = yb at *
  refine (HD3 _ A9 c9 V9.sl U9).out.mono ?_
  rintro e w10 ⟨A5, c5, rfl, f10, b10⟩
  have B10 := B9.trans (b10.mono B9.size)
  have P10 := P9.on b10 P9.lt
  have O10 := O9.on b10 O9.lt
  have Y10 := Y9.on b10 Y9.lt
  have Q10 := Q9.on b10 Q9.lt
  have U10 := U9.up b10
  have V10 := V9.on b10
  have N10 := N9.on b10
  clear B9 P9 O9 Y9 Q9 U9 V9 N9
  clear b10
  clear U10
  obtain ⟨p_0, p_1, p_2, p_3, p_4, p_5, p_6, p_7, p_8, p_9, p_10⟩ := id P10
  obtain ⟨o_0, o_1, o_2, o_3, o_4, o_5, o_6, o_7, o_8, o_9, o_10⟩ := id O10.sb
  obtain ⟨y_0, y_1, y_2, y_3, y_4, y_5, y_6, y_7, y_8, y_9, y_10, y_11, y_12⟩ := id Y10.rb
  obtain ⟨q_0, q_1, q_2, q_3, q_4, q_5, q_6, q_7, q_8, q_9, q_10, q_11, q_12⟩ := id Q10.rb
  have Pl10 := P10.lt
  have Ol10 := O10.lt
  have Yl10 := Y10.lt
  have Ql10 := Q10.lt
  go_wp2_with fail
  clear p_0 p_1 p_2 p_3 p_4 p_5 p_6 p_7 p_8 p_9 p_10 o_0 o_1 o_2 o_3 o_4 o_5 o_6 o_7 o_8 o_9 o_10 y_0 y_1 y_2 y_3 y_4 y_5 y_6 y_7 y_8 y_9 y_10 y_11 y_12 q_0 q_1 q_2 q_3 q_4 q_5 q_6 q_7 q_8 q_9 q_10 q_11 q_12
  clear Pl10 Ol10 Yl10 Ql10
  have B11 := B10.alloc B10.size (.cells (rcs m A5 c5) 32)
  have a11 : Below w10.heap.size w10 (w10.alloc (.cells (rcs m A5 c5) 32)) := (Below.refl _ _).alloc (Nat.le_refl _) _
  have P11 := P10.old (.cells (rcs m A5 c5) 32)
  have O11 := O10.old (.cells (rcs m A5 c5) 32)
  have Y11 := Y10.old (.cells (rcs m A5 c5) 32)
  have Q11 := Q10.old (.cells (rcs m A5 c5) 32)
  have Z11 := rx_new w10 m A5 c5
  have V11 := V10.on a11
  have N11 := N10.on a11
  have M11 := f10.on a11
  clear a11 B10 P10 O10 Y10 Q10 V10 N10 f10
  generalize (w10.alloc (.cells (rcs m A5 c5) 32)) = w11 at *
  refine (HS _ A5 A9 c5 c9 M11.sl V11.sl).out.mono ?_
  rintro e w12 ⟨rfl, b12⟩
  have B12 := B11.trans (b12.mono B11.size)
  have P12 := P11.on b12 P11.lt
  have O12 := O11.on b12 O11.lt
  have Y12 := Y11.on b12 Y11.lt
  have Q12 := Q11.on b12 Q11.lt
  have Z12 := Z11.on b12 Z11.lt
  have V12 := V11.on b12
  have N12 := N11.on b12
  have M12 := M11.on b12
  clear B11 P11 O11 Y11 Q11 Z11 V11 N11 M11
  clear b12
  obtain ⟨p_0, p_1, p_2, p_3, p_4, p_5, p_6, p_7, p_8, p_9, p_10⟩ := id P12
  obtain ⟨o_0, o_1, o_2, o_3, o_4, o_5, o_6, o_7, o_8, o_9, o_10⟩ := id O12.sb
  obtain ⟨y_0, y_1, y_2, y_3, y_4, y_5, y_6, y_7, y_8, y_9, y_10, y_11, y_12⟩ := id Y12.rb
  obtain ⟨q_0, q_1, q_2, q_3, q_4, q_5, q_6, q_7, q_8, q_9, q_10, q_11, q_12⟩ := id Q12.rb
  obtain ⟨z_0, z_1, z_2, z_3, z_4, z_5, z_6, z_7, z_8, z_9, z_10, z_11, z_12⟩ := id Z12.rb
  go_wp2_with fail
  clear p_0 p_1 p_2 p_3 p_4 p_5 p_6 p_7 p_8 p_9 p_10 o_0 o_1 o_2 o_3 o_4 o_5 o_6 o_7 o_8 o_9 o_10 y_0 y_1 y_2 y_3 y_4 y_5 y_6 y_7 y_8 y_9 y_10 y_11 y_12 q_0 q_1 q_2 q_3 q_4 q_5 q_6 q_7 q_8 q_9 q_10 q_11 q_12 z_0 z_1 z_2 z_3 z_4 z_5 z_6 z_7 z_8 z_9 z_10 z_11 z_12
  refine (HS _ A7 A9 c7 c9 N12.sl V12.sl).out.mono ?_
  rintro e w13 ⟨rfl, b13⟩
  have B13 := B12.trans (b13.mono B12.size)
  have P13 := P12.on b13 P12.lt
  have O13 := O12.on b13 O12.lt
  have Y13 := Y12.on b13 Y12.lt
  have Q13 := Q12.on b13 Q12.lt
  have Z13 := Z12.on b13 Z12.lt
  have V13 := V12.on b13
  have N13 := N12.on b13
  have M13 := M12.on b13
  clear B12 P12 O12 Y12 Q12 Z12 V12 N12 M12
  clear b13
  obtain ⟨p_0, p_1, p_2, p_3, p_4, p_5, p_6, p_7, p_8, p_9, p_10⟩ := id P13
  obtain ⟨o_0, o_1, o_2, o_3, o_4, o_5, o_6, o_7, o_8, o_9, o_10⟩ := id O13.sb
  obtain ⟨y_0, y_1, y_2, y_3, y_4, y_5, y_6, y_7, y_8, y_9, y_10, y_11, y_12⟩ := id Y13.rb
  obtain ⟨q_0, q_1, q_2, q_3, q_4, q_5, q_6, q_7, q_8, q_9, q_10, q_11, q_12⟩ := id Q13.rb
  obtain ⟨z_0, z_1, z_2, z_3, z_4, z_5, z_6, z_7, z_8, z_9, z_10, z_11, z_12⟩ := id Z13.rb
  go_wp2
  go_ret
  exact ⟨rfl, B13⟩

theorem votes_any (r : Rd) (p o : Sd) (A A' A'' : Option Addr) (c c' c'' : Nat) (w : World) (hs : At.Sl w w.heap.size .i64 A r.xs) (hs' : At.Sl w w.heap.size .i64 A' p.xs) (hs'' : At.Sl w w.heap.size .i64 A'' o.xs) : Calls Try.prog 4 #[rv r A c, sv p A' c', sv o A'' c''] w (UpPost w) := by
  rcases hf : fw r with _ | _
  · exact votes_a r p o A A' A'' c c' c'' w hs hs' hs'' hf
  rcases hg : decide ((p.xs.length : Int) ≤ 50) with _ | _
  · exact votes_b r p o A A' A'' c c' c'' w hs hs' hs'' hf hg
  rcases hk : decide ((o.xs.length : Int) ≤ 50) with _ | _
  · exact votes_c r p o A A' A'' c c' c'' w hs hs' hs'' hf hg hk
  by_cases h0 : p.g < 1
  · exact votes_d r p o A A' A'' c c' c'' w hs hs' hs'' hf hg hk h0
  by_cases h2 : 2 < p.g
  · exact votes_e r p o A A' A'' c c' c'' w hs hs' hs'' hf hg hk h0 h2
  by_cases hm : 0 < Ba.cm r.vn r.vb r.pn r.pb
  · exact votes_f r p o A A' A'' c c' c'' w hs hs' hs'' hf hg hk h0 h2 hm
  rcases hd : db r p with _ | _
  · exact votes_no r p o A A' A'' c c' c'' w hs hs' hs'' hf hg hk h0 h2 hm hd
  rcases ho : (o.g == 1) with _ | _
  · exact votes_go r p o A A' A'' c c' c'' w hs hs' hs'' hf hg hk h0 h2 hm hd ho
  · exact votes_one r p o A A' A'' c c' c'' w hs hs' hs'' hf hg hk h0 h2 hm hd ho

end Go.Proofs.Ytdeaaeejkpghaaa.In
