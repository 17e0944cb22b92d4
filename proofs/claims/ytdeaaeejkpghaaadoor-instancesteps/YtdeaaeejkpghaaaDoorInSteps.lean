/-
  The walk of the law InstanceSteps: what any step makes of all that may be known is what the document says.
-/
import Derived.Test.YtdeaaeejkpghaaaDoorInDid
import Derived.Test.YtdeaaeejkpghaaaDoorInIrmay
import Derived.Test.YtdeaaeejkpghaaaDoorInMv
import Derived.Deep.RegionHeld3
import Derived.Deep.DeepCutAuto
namespace Go.Proofs.YtdeaaeejkpghaaaDoor.In
open Go.RowKit
set_option linter.unusedVariables false
attribute [local go_sem ↓ high] Ba.eq23 Ba.guard23 Ba.neq23 Ba.guard23n eqc guardc


set_option maxHeartbeats 4000000 in
theorem steps_a (r : Rd) (p : Sd) (o : Rd) (A A' A'' : Option Addr) (c c' c'' : Nat) (n : Int) (w : World) (hN : Nd w) (hs : At.Sl w w.heap.size .i64 A r.xs) (hs' : At.Sl w w.heap.size .i64 A' p.xs) (hs'' : At.Sl w w.heap.size .i64 A'' o.xs) (hf : fw r = false) : Calls Tryd.prog 3 #[rv r A c, sv p A' c', rv o A'' c'', .int .i64 n] w (UpPost w) := by
  have HA : ∀ W, Hid (Calls Tryd.prog 5 #[] W (UpPost W)) := fun W => awake_any W
  have HF : ∀ W, Hid (Calls Tryd.prog 6 #[rv r A c] W (BoolPost W (fw r))) := fun W => few9_any r A c W
  have HK : ∀ W, Hid (Calls Tryd.prog 6 #[rv o A'' c''] W (BoolPost W (fw o))) := fun W => few9_any o A'' c'' W
  have HG : ∀ W, Hid (Calls Tryd.prog 7 #[av p.q A' p.xs.length c'] W (At.BoolPost W (decide ((p.xs.length : Int) ≤ 50)))) := fun W => At.few_any p.q A' p.xs.length c' W
  rw [hf] at HF
  generalize fw o = K9 at *
  generalize decide ((p.xs.length : Int) ≤ 50) = G at *
  have X0 : Rx (((w.alloc (.cells (rcs r A c) 30)).alloc (.cells (scs p A' c') 32)).alloc (.cells (rcs o A'' c'') 30)) (w.heap.size) r A c := by
    have h0 := rx_new w r A c
    exact ((h0.old _).old _)
  have P0 : Sb (((w.alloc (.cells (rcs r A c) 30)).alloc (.cells (scs p A' c') 32)).alloc (.cells (rcs o A'' c'') 30)) (w.heap.size + 1) p A' c' := by
    have h0 := sb_new (w.alloc (.cells (rcs r A c) 30)) p A' c'
    rw [show (w.alloc (.cells (rcs r A c) 30)).heap.size = w.heap.size + 1 by simp] at h0
    exact (h0.old _)
  have O0 : Rx (((w.alloc (.cells (rcs r A c) 30)).alloc (.cells (scs p A' c') 32)).alloc (.cells (rcs o A'' c'') 30)) (w.heap.size + 1 + 1) o A'' c'' := by
    have h0 := rx_new ((w.alloc (.cells (rcs r A c) 30)).alloc (.cells (scs p A' c') 32)) o A'' c''
    rw [show ((w.alloc (.cells (rcs r A c) 30)).alloc (.cells (scs p A' c') 32)).heap.size = w.heap.size + 1 + 1 by simp] at h0
    exact h0
  have B0 : Below w.heap.size w (((w.alloc (.cells (rcs r A c) 30)).alloc (.cells (scs p A' c') 32)).alloc (.cells (rcs o A'' c'') 30)) := ((((Below.refl _ _).alloc (Nat.le_refl _) _).alloc (by first | (simp; done) | (simp; omega)) _).alloc (by first | (simp; done) | (simp; omega)) _)
  have S0 := hs.to B0 B0.size
  have T0 := hs'.to B0 B0.size
  have U0 := hs''.to B0 B0.size
  go_enter Tryd.func3, Tryd.ntmps3
  go_wp2_with fail
  generalize (((w.alloc (.cells (rcs r A c) 30)).alloc (.cells (scs p A' c') 32)).alloc (.cells (rcs o A'' c'') 30)) = W0 at *
  have N0 := hN.on B0
  refine (HA _).out.mono ?_
  rintro e w1 ⟨rfl, b1⟩
  have B1 := B0.trans (b1.mono B0.size)
  have X1 := X0.on b1 X0.lt
  have P1 := P0.on b1 P0.lt
  have O1 := O0.on b1 O0.lt
  have S1 := S0.up b1
  have T1 := T0.up b1
  have U1 := U0.up b1
  have N1 := N0.on b1
  clear B0 X0 P0 O0 S0 T0 U0 N0
  clear b1
  obtain ⟨x_0, x_1, x_2, x_3, x_4, x_5, x_6, x_7, x_8, x_9, x_10, x_11, x_12⟩ := id X1.rb
  obtain ⟨p_0, p_1, p_2, p_3, p_4, p_5, p_6, p_7, p_8, p_9, p_10⟩ := id P1
  obtain ⟨o_0, o_1, o_2, o_3, o_4, o_5, o_6, o_7, o_8, o_9, o_10, o_11, o_12⟩ := id O1.rb
  go_wp2_with fail
  clear x_0 x_1 x_2 x_3 x_4 x_5 x_6 x_7 x_8 x_9 x_10 x_11 x_12 p_0 p_1 p_2 p_3 p_4 p_5 p_6 p_7 p_8 p_9 p_10 o_0 o_1 o_2 o_3 o_4 o_5 o_6 o_7 o_8 o_9 o_10 o_11 o_12
  refine (HF _).out.mono ?_
  rintro e w2 ⟨rfl, b2⟩
  have B2 := B1.trans (b2.mono B1.size)
  have X2 := X1.on b2 X1.lt
  have P2 := P1.on b2 P1.lt
  have O2 := O1.on b2 O1.lt
  have S2 := S1.up b2
  have T2 := T1.up b2
  have U2 := U1.up b2
  have N2 := N1.on b2
  clear B1 X1 P1 O1 S1 T1 U1 N1
  clear b2
  obtain ⟨x_0, x_1, x_2, x_3, x_4, x_5, x_6, x_7, x_8, x_9, x_10, x_11, x_12⟩ := id X2.rb
  obtain ⟨p_0, p_1, p_2, p_3, p_4, p_5, p_6, p_7, p_8, p_9, p_10⟩ := id P2
  obtain ⟨o_0, o_1, o_2, o_3, o_4, o_5, o_6, o_7, o_8, o_9, o_10, o_11, o_12⟩ := id O2.rb
  go_wp2_with fail
  clear x_0 x_1 x_2 x_3 x_4 x_5 x_6 x_7 x_8 x_9 x_10 x_11 x_12 p_0 p_1 p_2 p_3 p_4 p_5 p_6 p_7 p_8 p_9 p_10 o_0 o_1 o_2 o_3 o_4 o_5 o_6 o_7 o_8 o_9 o_10 o_11 o_12
  refine (HK _).out.mono ?_
  rintro e w3 ⟨rfl, b3⟩
  have B3 := B2.trans (b3.mono B2.size)
  have X3 := X2.on b3 X2.lt
  have P3 := P2.on b3 P2.lt
  have O3 := O2.on b3 O2.lt
  have S3 := S2.up b3
  have T3 := T2.up b3
  have U3 := U2.up b3
  have N3 := N2.on b3
  clear B2 X2 P2 O2 S2 T2 U2 N2
  clear b3
  obtain ⟨x_0, x_1, x_2, x_3, x_4, x_5, x_6, x_7, x_8, x_9, x_10, x_11, x_12⟩ := id X3.rb
  obtain ⟨p_0, p_1, p_2, p_3, p_4, p_5, p_6, p_7, p_8, p_9, p_10⟩ := id P3
  obtain ⟨o_0, o_1, o_2, o_3, o_4, o_5, o_6, o_7, o_8, o_9, o_10, o_11, o_12⟩ := id O3.rb
  go_wp2_with fail
  clear x_0 x_1 x_2 x_3 x_4 x_5 x_6 x_7 x_8 x_9 x_10 x_11 x_12 p_0 p_1 p_2 p_3 p_4 p_5 p_6 p_7 p_8 p_9 p_10 o_0 o_1 o_2 o_3 o_4 o_5 o_6 o_7 o_8 o_9 o_10 o_11 o_12
  refine (HG _).out.mono ?_
  rintro e w4 ⟨rfl, b4⟩
  have B4 := B3.trans (b4.mono B3.size)
  have X4 := X3.on b4 X3.lt
  have P4 := P3.on b4 P3.lt
  have O4 := O3.on b4 O3.lt
  have S4 := S3.up b4
  have T4 := T3.up b4
  have U4 := U3.up b4
  have N4 := N3.on b4
  clear B3 X3 P3 O3 S3 T3 U3 N3
  clear b4
  obtain ⟨x_0, x_1, x_2, x_3, x_4, x_5, x_6, x_7, x_8, x_9, x_10, x_11, x_12⟩ := id X4.rb
  obtain ⟨p_0, p_1, p_2, p_3, p_4, p_5, p_6, p_7, p_8, p_9, p_10⟩ := id P4
  obtain ⟨o_0, o_1, o_2, o_3, o_4, o_5, o_6, o_7, o_8, o_9, o_10, o_11, o_12⟩ := id O4.rb
  go_wp2
  go_ret
  exact ⟨rfl, B4⟩

set_option maxHeartbeats 4000000 in
theorem steps_b (r : Rd) (p : Sd) (o : Rd) (A A' A'' : Option Addr) (c c' c'' : Nat) (n : Int) (w : World) (hN : Nd w) (hs : At.Sl w w.heap.size .i64 A r.xs) (hs' : At.Sl w w.heap.size .i64 A' p.xs) (hs'' : At.Sl w w.heap.size .i64 A'' o.xs) (hf : fw r = true) (hk : fw o = false) : Calls Tryd.prog 3 #[rv r A c, sv p A' c', rv o A'' c'', .int .i64 n] w (UpPost w) := by
  have HA : ∀ W, Hid (Calls Tryd.prog 5 #[] W (UpPost W)) := fun W => awake_any W
  have HF : ∀ W, Hid (Calls Tryd.prog 6 #[rv r A c] W (BoolPost W (fw r))) := fun W => few9_any r A c W
  have HK : ∀ W, Hid (Calls Tryd.prog 6 #[rv o A'' c''] W (BoolPost W (fw o))) := fun W => few9_any o A'' c'' W
  have HG : ∀ W, Hid (Calls Tryd.prog 7 #[av p.q A' p.xs.length c'] W (At.BoolPost W (decide ((p.xs.length : Int) ≤ 50)))) := fun W => At.few_any p.q A' p.xs.length c' W
  rw [hf] at HF
  rw [hk] at HK
  generalize decide ((p.xs.length : Int) ≤ 50) = G at *
  have X0 : Rx (((w.alloc (.cells (rcs r A c) 30)).alloc (.cells (scs p A' c') 32)).alloc (.cells (rcs o A'' c'') 30)) (w.heap.size) r A c := by
    have h0 := rx_new w r A c
    exact ((h0.old _).old _)
  have P0 : Sb (((w.alloc (.cells (rcs r A c) 30)).alloc (.cells (scs p A' c') 32)).alloc (.cells (rcs o A'' c'') 30)) (w.heap.size + 1) p A' c' := by
    have h0 := sb_new (w.alloc (.cells (rcs r A c) 30)) p A' c'
    rw [show (w.alloc (.cells (rcs r A c) 30)).heap.size = w.heap.size + 1 by simp] at h0
    exact (h0.old _)
  have O0 : Rx (((w.alloc (.cells (rcs r A c) 30)).alloc (.cells (scs p A' c') 32)).alloc (.cells (rcs o A'' c'') 30)) (w.heap.size + 1 + 1) o A'' c'' := by
    have h0 := rx_new ((w.alloc (.cells (rcs r A c) 30)).alloc (.cells (scs p A' c') 32)) o A'' c''
    rw [show ((w.alloc (.cells (rcs r A c) 30)).alloc (.cells (scs p A' c') 32)).heap.size = w.heap.size + 1 + 1 by simp] at h0
    exact h0
  have B0 : Below w.heap.size w (((w.alloc (.cells (rcs r A c) 30)).alloc (.cells (scs p A' c') 32)).alloc (.cells (rcs o A'' c'') 30)) := ((((Below.refl _ _).alloc (Nat.le_refl _) _).alloc (by first | (simp; done) | (simp; omega)) _).alloc (by first | (simp; done) | (simp; omega)) _)
  have S0 := hs.to B0 B0.size
  have T0 := hs'.to B0 B0.size
  have U0 := hs''.to B0 B0.size
  go_enter Tryd.func3, Tryd.ntmps3
  go_wp2_with fail
  generalize (((w.alloc (.cells (rcs r A c) 30)).alloc (.cells (scs p A' c') 32)).alloc (.cells (rcs o A'' c'') 30)) = W0 at *
  have N0 := hN.on B0
  refine (HA _).out.mono ?_
  rintro e w1 ⟨rfl, b1⟩
  have B1 := B0.trans (b1.mono B0.size)
  have X1 := X0.on b1 X0.lt
  have P1 := P0.on b1 P0.lt
  have O1 := O0.on b1 O0.lt
  have S1 := S0.up b1
  have T1 := T0.up b1
  have U1 := U0.up b1
  have N1 := N0.on b1
  clear B0 X0 P0 O0 S0 T0 U0 N0
  clear b1
  obtain ⟨x_0, x_1, x_2, x_3, x_4, x_5, x_6, x_7, x_8, x_9, x_10, x_11, x_12⟩ := id X1.rb
  obtain ⟨p_0, p_1, p_2, p_3, p_4, p_5, p_6, p_7, p_8, p_9, p_10⟩ := id P1
  obtain ⟨o_0, o_1, o_2, o_3, o_4, o_5, o_6, o_7, o_8, o_9, o_10, o_11, o_12⟩ := id O1.rb
  go_wp2_with fail
  clear x_0 x_1 x_2 x_3 x_4 x_5 x_6 x_7 x_8 x_9 x_10 x_11 x_12 p_0 p_1 p_2 p_3 p_4 p_5 p_6 p_7 p_8 p_9 p_10 o_0 o_1 o_2 o_3 o_4 o_5 o_6 o_7 o_8 o_9 o_10 o_11 o_12
  refine (HF _).out.mono ?_
  rintro e w2 ⟨rfl, b2⟩
  have B2 := B1.trans (b2.mono B1.size)
  have X2 := X1.on b2 X1.lt
  have P2 := P1.on b2 P1.lt
  have O2 := O1.on b2 O1.lt
  have S2 := S1.up b2
  have T2 := T1.up b2
  have U2 := U1.up b2
  have N2 := N1.on b2
  clear B1 X1 P1 O1 S1 T1 U1 N1
  clear b2
  obtain ⟨x_0, x_1, x_2, x_3, x_4, x_5, x_6, x_7, x_8, x_9, x_10, x_11, x_12⟩ := id X2.rb
  obtain ⟨p_0, p_1, p_2, p_3, p_4, p_5, p_6, p_7, p_8, p_9, p_10⟩ := id P2
  obtain ⟨o_0, o_1, o_2, o_3, o_4, o_5, o_6, o_7, o_8, o_9, o_10, o_11, o_12⟩ := id O2.rb
  go_wp2_with fail
  clear x_0 x_1 x_2 x_3 x_4 x_5 x_6 x_7 x_8 x_9 x_10 x_11 x_12 p_0 p_1 p_2 p_3 p_4 p_5 p_6 p_7 p_8 p_9 p_10 o_0 o_1 o_2 o_3 o_4 o_5 o_6 o_7 o_8 o_9 o_10 o_11 o_12
  refine (HK _).out.mono ?_
  rintro e w3 ⟨rfl, b3⟩
  have B3 := B2.trans (b3.mono B2.size)
  have X3 := X2.on b3 X2.lt
  have P3 := P2.on b3 P2.lt
  have O3 := O2.on b3 O2.lt
  have S3 := S2.up b3
  have T3 := T2.up b3
  have U3 := U2.up b3
  have N3 := N2.on b3
  clear B2 X2 P2 O2 S2 T2 U2 N2
  clear b3
  obtain ⟨x_0, x_1, x_2, x_3, x_4, x_5, x_6, x_7, x_8, x_9, x_10, x_11, x_12⟩ := id X3.rb
  obtain ⟨p_0, p_1, p_2, p_3, p_4, p_5, p_6, p_7, p_8, p_9, p_10⟩ := id P3
  obtain ⟨o_0, o_1, o_2, o_3, o_4, o_5, o_6, o_7, o_8, o_9, o_10, o_11, o_12⟩ := id O3.rb
  go_wp2_with fail
  clear x_0 x_1 x_2 x_3 x_4 x_5 x_6 x_7 x_8 x_9 x_10 x_11 x_12 p_0 p_1 p_2 p_3 p_4 p_5 p_6 p_7 p_8 p_9 p_10 o_0 o_1 o_2 o_3 o_4 o_5 o_6 o_7 o_8 o_9 o_10 o_11 o_12
  refine (HG _).out.mono ?_
  rintro e w4 ⟨rfl, b4⟩
  have B4 := B3.trans (b4.mono B3.size)
  have X4 := X3.on b4 X3.lt
  have P4 := P3.on b4 P3.lt
  have O4 := O3.on b4 O3.lt
  have S4 := S3.up b4
  have T4 := T3.up b4
  have U4 := U3.up b4
  have N4 := N3.on b4
  clear B3 X3 P3 O3 S3 T3 U3 N3
  clear b4
  obtain ⟨x_0, x_1, x_2, x_3, x_4, x_5, x_6, x_7, x_8, x_9, x_10, x_11, x_12⟩ := id X4.rb
  obtain ⟨p_0, p_1, p_2, p_3, p_4, p_5, p_6, p_7, p_8, p_9, p_10⟩ := id P4
  obtain ⟨o_0, o_1, o_2, o_3, o_4, o_5, o_6, o_7, o_8, o_9, o_10, o_11, o_12⟩ := id O4.rb
  go_wp2
  go_ret
  exact ⟨rfl, B4⟩

set_option maxHeartbeats 4000000 in
theorem steps_c (r : Rd) (p : Sd) (o : Rd) (A A' A'' : Option Addr) (c c' c'' : Nat) (n : Int) (w : World) (hN : Nd w) (hs : At.Sl w w.heap.size .i64 A r.xs) (hs' : At.Sl w w.heap.size .i64 A' p.xs) (hs'' : At.Sl w w.heap.size .i64 A'' o.xs) (hf : fw r = true) (hk : fw o = true) (hg : decide ((p.xs.length : Int) ≤ 50) = false) : Calls Tryd.prog 3 #[rv r A c, sv p A' c', rv o A'' c'', .int .i64 n] w (UpPost w) := by
  have HA : ∀ W, Hid (Calls Tryd.prog 5 #[] W (UpPost W)) := fun W => awake_any W
  have HF : ∀ W, Hid (Calls Tryd.prog 6 #[rv r A c] W (BoolPost W (fw r))) := fun W => few9_any r A c W
  have HK : ∀ W, Hid (Calls Tryd.prog 6 #[rv o A'' c''] W (BoolPost W (fw o))) := fun W => few9_any o A'' c'' W
  have HG : ∀ W, Hid (Calls Tryd.prog 7 #[av p.q A' p.xs.length c'] W (At.BoolPost W (decide ((p.xs.length : Int) ≤ 50)))) := fun W => At.few_any p.q A' p.xs.length c' W
  rw [hf] at HF
  rw [hk] at HK
  rw [hg] at HG
  have X0 : Rx (((w.alloc (.cells (rcs r A c) 30)).alloc (.cells (scs p A' c') 32)).alloc (.cells (rcs o A'' c'') 30)) (w.heap.size) r A c := by
    have h0 := rx_new w r A c
    exact ((h0.old _).old _)
  have P0 : Sb (((w.alloc (.cells (rcs r A c) 30)).alloc (.cells (scs p A' c') 32)).alloc (.cells (rcs o A'' c'') 30)) (w.heap.size + 1) p A' c' := by
    have h0 := sb_new (w.alloc (.cells (rcs r A c) 30)) p A' c'
    rw [show (w.alloc (.cells (rcs r A c) 30)).heap.size = w.heap.size + 1 by simp] at h0
    exact (h0.old _)
  have O0 : Rx (((w.alloc (.cells (rcs r A c) 30)).alloc (.cells (scs p A' c') 32)).alloc (.cells (rcs o A'' c'') 30)) (w.heap.size + 1 + 1) o A'' c'' := by
    have h0 := rx_new ((w.alloc (.cells (rcs r A c) 30)).alloc (.cells (scs p A' c') 32)) o A'' c''
    rw [show ((w.alloc (.cells (rcs r A c) 30)).alloc (.cells (scs p A' c') 32)).heap.size = w.heap.size + 1 + 1 by simp] at h0
    exact h0
  have B0 : Below w.heap.size w (((w.alloc (.cells (rcs r A c) 30)).alloc (.cells (scs p A' c') 32)).alloc (.cells (rcs o A'' c'') 30)) := ((((Below.refl _ _).alloc (Nat.le_refl _) _).alloc (by first | (simp; done) | (simp; omega)) _).alloc (by first | (simp; done) | (simp; omega)) _)
  have S0 := hs.to B0 B0.size
  have T0 := hs'.to B0 B0.size
  have U0 := hs''.to B0 B0.size
  go_enter Tryd.func3, Tryd.ntmps3
  go_wp2_with fail
  generalize (((w.alloc (.cells (rcs r A c) 30)).alloc (.cells (scs p A' c') 32)).alloc (.cells (rcs o A'' c'') 30)) = W0 at *
  have N0 := hN.on B0
  refine (HA _).out.mono ?_
  rintro e w1 ⟨rfl, b1⟩
  have B1 := B0.trans (b1.mono B0.size)
  have X1 := X0.on b1 X0.lt
  have P1 := P0.on b1 P0.lt
  have O1 := O0.on b1 O0.lt
  have S1 := S0.up b1
  have T1 := T0.up b1
  have U1 := U0.up b1
  have N1 := N0.on b1
  clear B0 X0 P0 O0 S0 T0 U0 N0
  clear b1
  obtain ⟨x_0, x_1, x_2, x_3, x_4, x_5, x_6, x_7, x_8, x_9, x_10, x_11, x_12⟩ := id X1.rb
  obtain ⟨p_0, p_1, p_2, p_3, p_4, p_5, p_6, p_7, p_8, p_9, p_10⟩ := id P1
  obtain ⟨o_0, o_1, o_2, o_3, o_4, o_5, o_6, o_7, o_8, o_9, o_10, o_11, o_12⟩ := id O1.rb
  go_wp2_with fail
  clear x_0 x_1 x_2 x_3 x_4 x_5 x_6 x_7 x_8 x_9 x_10 x_11 x_12 p_0 p_1 p_2 p_3 p_4 p_5 p_6 p_7 p_8 p_9 p_10 o_0 o_1 o_2 o_3 o_4 o_5 o_6 o_7 o_8 o_9 o_10 o_11 o_12
  refine (HF _).out.mono ?_
  rintro e w2 ⟨rfl, b2⟩
  have B2 := B1.trans (b2.mono B1.size)
  have X2 := X1.on b2 X1.lt
  have P2 := P1.on b2 P1.lt
  have O2 := O1.on b2 O1.lt
  have S2 := S1.up b2
  have T2 := T1.up b2
  have U2 := U1.up b2
  have N2 := N1.on b2
  clear B1 X1 P1 O1 S1 T1 U1 N1
  clear b2
  obtain ⟨x_0, x_1, x_2, x_3, x_4, x_5, x_6, x_7, x_8, x_9, x_10, x_11, x_12⟩ := id X2.rb
  obtain ⟨p_0, p_1, p_2, p_3, p_4, p_5, p_6, p_7, p_8, p_9, p_10⟩ := id P2
  obtain ⟨o_0, o_1, o_2, o_3, o_4, o_5, o_6, o_7, o_8, o_9, o_10, o_11, o_12⟩ := id O2.rb
  go_wp2_with fail
  clear x_0 x_1 x_2 x_3 x_4 x_5 x_6 x_7 x_8 x_9 x_10 x_11 x_12 p_0 p_1 p_2 p_3 p_4 p_5 p_6 p_7 p_8 p_9 p_10 o_0 o_1 o_2 o_3 o_4 o_5 o_6 o_7 o_8 o_9 o_10 o_11 o_12
  refine (HK _).out.mono ?_
  rintro e w3 ⟨rfl, b3⟩
  have B3 := B2.trans (b3.mono B2.size)
  have X3 := X2.on b3 X2.lt
  have P3 := P2.on b3 P2.lt
  have O3 := O2.on b3 O2.lt
  have S3 := S2.up b3
  have T3 := T2.up b3
  have U3 := U2.up b3
  have N3 := N2.on b3
  clear B2 X2 P2 O2 S2 T2 U2 N2
  clear b3
  obtain ⟨x_0, x_1, x_2, x_3, x_4, x_5, x_6, x_7, x_8, x_9, x_10, x_11, x_12⟩ := id X3.rb
  obtain ⟨p_0, p_1, p_2, p_3, p_4, p_5, p_6, p_7, p_8, p_9, p_10⟩ := id P3
  obtain ⟨o_0, o_1, o_2, o_3, o_4, o_5, o_6, o_7, o_8, o_9, o_10, o_11, o_12⟩ := id O3.rb
  go_wp2_with fail
  clear x_0 x_1 x_2 x_3 x_4 x_5 x_6 x_7 x_8 x_9 x_10 x_11 x_12 p_0 p_1 p_2 p_3 p_4 p_5 p_6 p_7 p_8 p_9 p_10 o_0 o_1 o_2 o_3 o_4 o_5 o_6 o_7 o_8 o_9 o_10 o_11 o_12
  refine (HG _).out.mono ?_
  rintro e w4 ⟨rfl, b4⟩
  have B4 := B3.trans (b4.mono B3.size)
  have X4 := X3.on b4 X3.lt
  have P4 := P3.on b4 P3.lt
  have O4 := O3.on b4 O3.lt
  have S4 := S3.up b4
  have T4 := T3.up b4
  have U4 := U3.up b4
  have N4 := N3.on b4
  clear B3 X3 P3 O3 S3 T3 U3 N3
  clear b4
  obtain ⟨x_0, x_1, x_2, x_3, x_4, x_5, x_6, x_7, x_8, x_9, x_10, x_11, x_12⟩ := id X4.rb
  obtain ⟨p_0, p_1, p_2, p_3, p_4, p_5, p_6, p_7, p_8, p_9, p_10⟩ := id P4
  obtain ⟨o_0, o_1, o_2, o_3, o_4, o_5, o_6, o_7, o_8, o_9, o_10, o_11, o_12⟩ := id O4.rb
  go_wp2
  go_ret
  exact ⟨rfl, B4⟩

set_option maxHeartbeats 4000000 in
theorem steps_go (r : Rd) (p : Sd) (o : Rd) (A A' A'' : Option Addr) (c c' c'' : Nat) (n : Int) (w : World) (hN : Nd w) (hs : At.Sl w w.heap.size .i64 A r.xs) (hs' : At.Sl w w.heap.size .i64 A' p.xs) (hs'' : At.Sl w w.heap.size .i64 A'' o.xs) (hf : fw r = true) (hk : fw o = true) (hg : decide ((p.xs.length : Int) ≤ 50) = true) : Calls Tryd.prog 3 #[rv r A c, sv p A' c', rv o A'' c'', .int .i64 n] w (UpPost w) := by
  have HA : ∀ W, Hid (Calls Tryd.prog 5 #[] W (UpPost W)) := fun W => awake_any W
  have HF : ∀ W, Hid (Calls Tryd.prog 6 #[rv r A c] W (BoolPost W (fw r))) := fun W => few9_any r A c W
  have HK : ∀ W, Hid (Calls Tryd.prog 6 #[rv o A'' c''] W (BoolPost W (fw o))) := fun W => few9_any o A'' c'' W
  have HG : ∀ W, Hid (Calls Tryd.prog 7 #[av p.q A' p.xs.length c'] W (At.BoolPost W (decide ((p.xs.length : Int) ≤ 50)))) := fun W => At.few_any p.q A' p.xs.length c' W
  rw [hf] at HF
  rw [hk] at HK
  rw [hg] at HG
  have l1 : r.xs.length ≤ 50 := fw_le hf
  have l2 : p.xs.length ≤ 50 := by have := of_decide_eq_true hg; omega
  have l3 : o.xs.length ≤ 50 := fw_le hk
  have l4 : (ds r p).xs.length ≤ 50 := ds_le l1 l2
  have HD : ∀ W, At.Sl W W.heap.size .i64 A r.xs → At.Sl W W.heap.size .i64 A' p.xs → Hid (Calls Tryd.prog 8 #[rv r A c, sv p A' c'] W (VotePost W (ds r p) (db r p))) := fun W g g' => does_any r p A A' c c' W g g' (by omega) (by omega)
  have HE : ∀ W, Hid (Calls Tryd.prog 9 #[rv r A c, sv p A' c'] W (DidPost W A r.xs A' p.xs (ds r p) (db r p))) := fun W => did_any r p A A' c c' W
  have HS : ∀ W A1 A2 c1 c2, At.Sl W W.heap.size .i64 A1 (ds r p).xs → At.Sl W W.heap.size .i64 A2 (ds r p).xs → Hid (Calls Tryd.prog 10 #[rv (ds r p) A1 c1, rv (ds r p) A2 c2] W (BoolPost W true)) := fun W A1 A2 c1 c2 g g' => by
    have := rsame9_any (ds r p) (ds r p) A1 A2 c1 c2 W g g' (by omega) (by omega)
    rw [sm_self] at this
    exact this
  generalize ds r p = m at *
  generalize db r p = d at *
  have HM1 : ∀ W, Nd W → At.Sl W W.heap.size .i64 A r.xs → Hid (Calls Tryd.prog 11 #[rv r A c, .int .i64 n] W (BoolPost W (ym r n))) := fun W h g => imay_any r A c n W h g
  have HM2 : ∀ W, Nd W → At.Sl W W.heap.size .i64 A r.xs → Hid (Calls Tryd.prog 12 #[rv r A c, .int .i64 n] W (BoolPost W (ym r n))) := fun W h g => rmay9_any r A c n W h g
  have HS1 : ∀ W, At.Sl W W.heap.size .i64 A r.xs → At.Sl W W.heap.size .i64 A'' o.xs → Hid (Calls Tryd.prog 13 #[rv r A c, rv o A'' c''] W (BoolPost W (sm r o))) := fun W g g' => same_any r o A A'' c c'' W g g' (by omega) (by omega)
  have HS2 : ∀ W, At.Sl W W.heap.size .i64 A r.xs → At.Sl W W.heap.size .i64 A'' o.xs → Hid (Calls Tryd.prog 10 #[rv r A c, rv o A'' c''] W (BoolPost W (sm r o))) := fun W g g' => rsame9_any r o A A'' c c'' W g g' (by omega) (by omega)
  generalize ym r n = y9 at *
  generalize sm r o = s9 at *
  clear hf hg hk l1 l2 l3 l4
  have X0 : Rx (((w.alloc (.cells (rcs r A c) 30)).alloc (.cells (scs p A' c') 32)).alloc (.cells (rcs o A'' c'') 30)) (w.heap.size) r A c := by
    have h0 := rx_new w r A c
    exact ((h0.old _).old _)
  have P0 : Sb (((w.alloc (.cells (rcs r A c) 30)).alloc (.cells (scs p A' c') 32)).alloc (.cells (rcs o A'' c'') 30)) (w.heap.size + 1) p A' c' := by
    have h0 := sb_new (w.alloc (.cells (rcs r A c) 30)) p A' c'
    rw [show (w.alloc (.cells (rcs r A c) 30)).heap.size = w.heap.size + 1 by simp] at h0
    exact (h0.old _)
  have O0 : Rx (((w.alloc (.cells (rcs r A c) 30)).alloc (.cells (scs p A' c') 32)).alloc (.cells (rcs o A'' c'') 30)) (w.heap.size + 1 + 1) o A'' c'' := by
    have h0 := rx_new ((w.alloc (.cells (rcs r A c) 30)).alloc (.cells (scs p A' c') 32)) o A'' c''
    rw [show ((w.alloc (.cells (rcs r A c) 30)).alloc (.cells (scs p A' c') 32)).heap.size = w.heap.size + 1 + 1 by simp] at h0
    exact h0
  have B0 : Below w.heap.size w (((w.alloc (.cells (rcs r A c) 30)).alloc (.cells (scs p A' c') 32)).alloc (.cells (rcs o A'' c'') 30)) := ((((Below.refl _ _).alloc (Nat.le_refl _) _).alloc (by first | (simp; done) | (simp; omega)) _).alloc (by first | (simp; done) | (simp; omega)) _)
  have S0 := hs.to B0 B0.size
  have T0 := hs'.to B0 B0.size
  have U0 := hs''.to B0 B0.size
  go_enter Tryd.func3, Tryd.ntmps3
  go_wp2_with fail
  generalize (((w.alloc (.cells (rcs r A c) 30)).alloc (.cells (scs p A' c') 32)).alloc (.cells (rcs o A'' c'') 30)) = W0 at *
  have N0 := hN.on B0
  refine (HA _).out.mono ?_
  rintro e w1 ⟨rfl, b1⟩
  have B1 := B0.trans (b1.mono B0.size)
  have X1 := X0.on b1 X0.lt
  have P1 := P0.on b1 P0.lt
  have O1 := O0.on b1 O0.lt
  have S1 := S0.up b1
  have T1 := T0.up b1
  have U1 := U0.up b1
  have N1 := N0.on b1
  clear B0 X0 P0 O0 S0 T0 U0 N0
  clear b1
  obtain ⟨x_0, x_1, x_2, x_3, x_4, x_5, x_6, x_7, x_8, x_9, x_10, x_11, x_12⟩ := id X1.rb
  obtain ⟨p_0, p_1, p_2, p_3, p_4, p_5, p_6, p_7, p_8, p_9, p_10⟩ := id P1
  obtain ⟨o_0, o_1, o_2, o_3, o_4, o_5, o_6, o_7, o_8, o_9, o_10, o_11, o_12⟩ := id O1.rb
  go_wp2_with fail
  clear x_0 x_1 x_2 x_3 x_4 x_5 x_6 x_7 x_8 x_9 x_10 x_11 x_12 p_0 p_1 p_2 p_3 p_4 p_5 p_6 p_7 p_8 p_9 p_10 o_0 o_1 o_2 o_3 o_4 o_5 o_6 o_7 o_8 o_9 o_10 o_11 o_12
  refine (HF _).out.mono ?_
  rintro e w2 ⟨rfl, b2⟩
  have B2 := B1.trans (b2.mono B1.size)
  have X2 := X1.on b2 X1.lt
  have P2 := P1.on b2 P1.lt
  have O2 := O1.on b2 O1.lt
  have S2 := S1.up b2
  have T2 := T1.up b2
  have U2 := U1.up b2
  have N2 := N1.on b2
  clear B1 X1 P1 O1 S1 T1 U1 N1
  clear b2
  obtain ⟨x_0, x_1, x_2, x_3, x_4, x_5, x_6, x_7, x_8, x_9, x_10, x_11, x_12⟩ := id X2.rb
  obtain ⟨p_0, p_1, p_2, p_3, p_4, p_5, p_6, p_7, p_8, p_9, p_10⟩ := id P2
  obtain ⟨o_0, o_1, o_2, o_3, o_4, o_5, o_6, o_7, o_8, o_9, o_10, o_11, o_12⟩ := id O2.rb
  go_wp2_with fail
  clear x_0 x_1 x_2 x_3 x_4 x_5 x_6 x_7 x_8 x_9 x_10 x_11 x_12 p_0 p_1 p_2 p_3 p_4 p_5 p_6 p_7 p_8 p_9 p_10 o_0 o_1 o_2 o_3 o_4 o_5 o_6 o_7 o_8 o_9 o_10 o_11 o_12
  refine (HK _).out.mono ?_
  rintro e w3 ⟨rfl, b3⟩
  have B3 := B2.trans (b3.mono B2.size)
  have X3 := X2.on b3 X2.lt
  have P3 := P2.on b3 P2.lt
  have O3 := O2.on b3 O2.lt
  have S3 := S2.up b3
  have T3 := T2.up b3
  have U3 := U2.up b3
  have N3 := N2.on b3
  clear B2 X2 P2 O2 S2 T2 U2 N2
  clear b3
  obtain ⟨x_0, x_1, x_2, x_3, x_4, x_5, x_6, x_7, x_8, x_9, x_10, x_11, x_12⟩ := id X3.rb
  obtain ⟨p_0, p_1, p_2, p_3, p_4, p_5, p_6, p_7, p_8, p_9, p_10⟩ := id P3
  obtain ⟨o_0, o_1, o_2, o_3, o_4, o_5, o_6, o_7, o_8, o_9, o_10, o_11, o_12⟩ := id O3.rb
  go_wp2_with fail
  clear x_0 x_1 x_2 x_3 x_4 x_5 x_6 x_7 x_8 x_9 x_10 x_11 x_12 p_0 p_1 p_2 p_3 p_4 p_5 p_6 p_7 p_8 p_9 p_10 o_0 o_1 o_2 o_3 o_4 o_5 o_6 o_7 o_8 o_9 o_10 o_11 o_12
  refine (HG _).out.mono ?_
  rintro e w4 ⟨rfl, b4⟩
  have B4 := B3.trans (b4.mono B3.size)
  have X4 := X3.on b4 X3.lt
  have P4 := P3.on b4 P3.lt
  have O4 := O3.on b4 O3.lt
  have S4 := S3.up b4
  have T4 := T3.up b4
  have U4 := U3.up b4
  have N4 := N3.on b4
  clear B3 X3 P3 O3 S3 T3 U3 N3
  clear b4
  obtain ⟨x_0, x_1, x_2, x_3, x_4, x_5, x_6, x_7, x_8, x_9, x_10, x_11, x_12⟩ := id X4.rb
  obtain ⟨p_0, p_1, p_2, p_3, p_4, p_5, p_6, p_7, p_8, p_9, p_10⟩ := id P4
  obtain ⟨o_0, o_1, o_2, o_3, o_4, o_5, o_6, o_7, o_8, o_9, o_10, o_11, o_12⟩ := id O4.rb
  go_wp2_with fail
  clear x_0 x_1 x_2 x_3 x_4 x_5 x_6 x_7 x_8 x_9 x_10 x_11 x_12 p_0 p_1 p_2 p_3 p_4 p_5 p_6 p_7 p_8 p_9 p_10 o_0 o_1 o_2 o_3 o_4 o_5 o_6 o_7 o_8 o_9 o_10 o_11 o_12
  refine (HD _ S4 T4).out.mono ?_
  rintro e w5 ⟨A9, c9, rfl, f5, b5⟩
  have B5 := B4.trans (b5.mono B4.size)
  have X5 := X4.on b5 X4.lt
  have P5 := P4.on b5 P4.lt
  have O5 := O4.on b5 O4.lt
  have S5 := S4.up b5
  have T5 := T4.up b5
  have U5 := U4.up b5
  have N5 := N4.on b5
  clear B4 X4 P4 O4 S4 T4 U4 N4
  clear b5
  obtain ⟨x_0, x_1, x_2, x_3, x_4, x_5, x_6, x_7, x_8, x_9, x_10, x_11, x_12⟩ := id X5.rb
  obtain ⟨p_0, p_1, p_2, p_3, p_4, p_5, p_6, p_7, p_8, p_9, p_10⟩ := id P5
  obtain ⟨o_0, o_1, o_2, o_3, o_4, o_5, o_6, o_7, o_8, o_9, o_10, o_11, o_12⟩ := id O5.rb
  have Xl5 := X5.lt
  have Pl5 := P5.lt
  have Ol5 := O5.lt
  go_wp2_with fail
  clear x_0 x_1 x_2 x_3 x_4 x_5 x_6 x_7 x_8 x_9 x_10 x_11 x_12 p_0 p_1 p_2 p_3 p_4 p_5 p_6 p_7 p_8 p_9 p_10 o_0 o_1 o_2 o_3 o_4 o_5 o_6 o_7 o_8 o_9 o_10 o_11 o_12
  clear Xl5 Pl5 Ol5
  have B6 := B5.alloc B5.size (.cells (rcs m A9 c9) 30)
  have a6 : Below w5.heap.size w5 (w5.alloc (.cells (rcs m A9 c9) 30)) := (Below.refl _ _).alloc (Nat.le_refl _) _
  have X6 := X5.old (.cells (rcs m A9 c9) 30)
  have P6 := P5.old (.cells (rcs m A9 c9) 30)
  have O6 := O5.old (.cells (rcs m A9 c9) 30)
  have S6 := S5.up a6
  have T6 := T5.up a6
  have U6 := U5.up a6
  have Y6 := rx_new w5 m A9 c9
  have N6 := N5.on a6
  have V6 := f5.on a6
  clear a6 B5 X5 P5 O5 S5 T5 U5 N5 f5
  generalize (w5.alloc (.cells (rcs m A9 c9) 30)) = w6 at *
  refine (HE _).out.mono ?_
  rintro e w7 ⟨A7, c7, rfl, g7, b7⟩
  have B7 := B6.trans (b7.mono B6.size)
  have X7 := X6.on b7 X6.lt
  have P7 := P6.on b7 P6.lt
  have O7 := O6.on b7 O6.lt
  have Y7 := Y6.on b7 Y6.lt
  have S7 := S6.up b7
  have T7 := T6.up b7
  have U7 := U6.up b7
  have N7 := N6.on b7
  have V7 := V6.on b7
  clear B6 X6 P6 O6 Y6 S6 T6 U6 N6 V6
  clear b7
  obtain ⟨x_0, x_1, x_2, x_3, x_4, x_5, x_6, x_7, x_8, x_9, x_10, x_11, x_12⟩ := id X7.rb
  obtain ⟨p_0, p_1, p_2, p_3, p_4, p_5, p_6, p_7, p_8, p_9, p_10⟩ := id P7
  obtain ⟨o_0, o_1, o_2, o_3, o_4, o_5, o_6, o_7, o_8, o_9, o_10, o_11, o_12⟩ := id O7.rb
  obtain ⟨y_0, y_1, y_2, y_3, y_4, y_5, y_6, y_7, y_8, y_9, y_10, y_11, y_12⟩ := id Y7.rb
  have G7 := g7 _ _ S7 T7
  clear g7
  have Xl7 := X7.lt
  have Pl7 := P7.lt
  have Ol7 := O7.lt
  have Yl7 := Y7.lt
  go_wp2_with fail
  clear x_0 x_1 x_2 x_3 x_4 x_5 x_6 x_7 x_8 x_9 x_10 x_11 x_12 p_0 p_1 p_2 p_3 p_4 p_5 p_6 p_7 p_8 p_9 p_10 o_0 o_1 o_2 o_3 o_4 o_5 o_6 o_7 o_8 o_9 o_10 o_11 o_12 y_0 y_1 y_2 y_3 y_4 y_5 y_6 y_7 y_8 y_9 y_10 y_11 y_12
  clear Xl7 Pl7 Ol7 Yl7
  have B8 := B7.alloc B7.size (.cells (rcs m A7 c7) 30)
  have a8 : Below w7.heap.size w7 (w7.alloc (.cells (rcs m A7 c7) 30)) := (Below.refl _ _).alloc (Nat.le_refl _) _
  have X8 := X7.old (.cells (rcs m A7 c7) 30)
  have P8 := P7.old (.cells (rcs m A7 c7) 30)
  have O8 := O7.old (.cells (rcs m A7 c7) 30)
  have Y8 := Y7.old (.cells (rcs m A7 c7) 30)
  have S8 := S7.up a8
  have T8 := T7.up a8
  have U8 := U7.up a8
  have G8 := G7.up a8
  have Z8 := rx_new w7 m A7 c7
  have N8 := N7.on a8
  have V8 := V7.on a8
  clear a8 B7 X7 P7 O7 Y7 S7 T7 U7 G7 N7 V7
  generalize (w7.alloc (.cells (rcs m A7 c7) 30)) = w8 at *
  refine (HS _ A9 A7 c9 c7 V8.sl G8).out.mono ?_
  rintro e w9 ⟨rfl, b9⟩
  have B9 := B8.trans (b9.mono B8.size)
  have X9 := X8.on b9 X8.lt
  have P9 := P8.on b9 P8.lt
  have O9 := O8.on b9 O8.lt
  have Y9 := Y8.on b9 Y8.lt
  have Z9 := Z8.on b9 Z8.lt
  have S9 := S8.up b9
  have T9 := T8.up b9
  have U9 := U8.up b9
  have G9 := G8.up b9
  have N9 := N8.on b9
  have V9 := V8.on b9
  clear B8 X8 P8 O8 Y8 Z8 S8 T8 U8 G8 N8 V8
  clear b9
  clear Y9 Z9 V9 G9 P9 T9
  go_upto_region 10 with fail
  have SB : Hid (∀ v, Below w9.heap.size w9 v → ((v.cell? ⟨w.heap.size, 0, none⟩ = some (.int .i64 r.st) ∧ v.cell? ⟨w.heap.size, 1, none⟩ = some (.int .i64 r.pn) ∧ v.cell? ⟨w.heap.size, 2, none⟩ = some (.int .i64 r.pb) ∧ v.cell? ⟨w.heap.size, 3, none⟩ = some (.int .i64 r.vn) ∧ v.cell? ⟨w.heap.size, 4, none⟩ = some (.int .i64 r.vb) ∧ v.cell? ⟨w.heap.size, 5, none⟩ = some (.int .i64 r.u) ∧ v.cell? ⟨w.heap.size, 6, none⟩ = some (.int .i64 r.s) ∧ v.cell? ⟨w.heap.size, 7, none⟩ = some (.int .i64 r.k) ∧ v.cell? ⟨w.heap.size, 8, none⟩ = some (.int .i64 r.h) ∧ v.cell? ⟨w.heap.size, 9, none⟩ = some (.int .i64 r.n) ∧ v.cell? ⟨w.heap.size, 10, none⟩ = some (.string r.t) ∧ v.cell? ⟨w.heap.size, 11, none⟩ = some (.int .i64 r.q) ∧ v.cell? ⟨w.heap.size, 12, none⟩ = some (.slice A r.xs.length c)) ∧ (v.cell? ⟨w.heap.size + 1 + 1, 0, none⟩ = some (.int .i64 o.st) ∧ v.cell? ⟨w.heap.size + 1 + 1, 1, none⟩ = some (.int .i64 o.pn) ∧ v.cell? ⟨w.heap.size + 1 + 1, 2, none⟩ = some (.int .i64 o.pb) ∧ v.cell? ⟨w.heap.size + 1 + 1, 3, none⟩ = some (.int .i64 o.vn) ∧ v.cell? ⟨w.heap.size + 1 + 1, 4, none⟩ = some (.int .i64 o.vb) ∧ v.cell? ⟨w.heap.size + 1 + 1, 5, none⟩ = some (.int .i64 o.u) ∧ v.cell? ⟨w.heap.size + 1 + 1, 6, none⟩ = some (.int .i64 o.s) ∧ v.cell? ⟨w.heap.size + 1 + 1, 7, none⟩ = some (.int .i64 o.k) ∧ v.cell? ⟨w.heap.size + 1 + 1, 8, none⟩ = some (.int .i64 o.h) ∧ v.cell? ⟨w.heap.size + 1 + 1, 9, none⟩ = some (.int .i64 o.n) ∧ v.cell? ⟨w.heap.size + 1 + 1, 10, none⟩ = some (.string o.t) ∧ v.cell? ⟨w.heap.size + 1 + 1, 11, none⟩ = some (.int .i64 o.q) ∧ v.cell? ⟨w.heap.size + 1 + 1, 12, none⟩ = some (.slice A'' o.xs.length c'')))) := fun v g => ⟨(X9.on g X9.lt).rb, (O9.on g O9.lt).rb⟩
  have BD : Hid (Below w9.heap.size w9 w9.drew) := (Below.refl _ _).drew
  have C1 : ∀ W, Below w9.heap.size w9 W → Hid (Calls Tryd.prog 11 #[rv r A c, .int .i64 n] W (BoolPost W y9)) := fun W g => HM1 W (N9.on g) (S9.up g)
  have C2 : ∀ W, Below w9.heap.size w9 W → Hid (Calls Tryd.prog 12 #[rv r A c, .int .i64 n] W (BoolPost W y9)) := fun W g => HM2 W (N9.on g) (S9.up g)
  have C3 : ∀ W, Below w9.heap.size w9 W → Hid (Calls Tryd.prog 13 #[rv r A c, rv o A'' c''] W (BoolPost W s9)) := fun W g => HS1 W (S9.up g) (U9.up g)
  have C4 : ∀ W, Below w9.heap.size w9 W → Hid (Calls Tryd.prog 10 #[rv r A c, rv o A'' c''] W (BoolPost W s9)) := fun W g => HS2 W (S9.up g) (U9.up g)
  have HB := Lib.hid B9
  clear HM1 HM2 HS1 HS2 HS HD HE HA HF HK HG B9 X9 O9 N9 S9 U9
  refine wp_region_held_drew (S := fun v => Below w9.heap.size w9 v) (by kernel_rfl) BD.out (fun hH => ?_)
  refine wpAnyH_take (i := 0) (v := ?v1) rfl (by kernel_rfl) (by kernel_rfl) (by kernel_rfl) (fun _ _ _ h => h) (Or.inl ⟨by rfl, ?hy1⟩) hH ?rest1
  case hy1 => (intro w hSw; (try dsimp only at hSw); go_simp; try with_reducible rfl)
  try simp only [Act.put, List.setIfInBounds_toArray, List.set_cons_zero, List.set_cons_succ, List.getElem_toArray, List.getElem_cons_zero]
  refine wpAnyH_take (i := 1) (v := ?v2) rfl (by kernel_rfl) (by kernel_rfl) (by kernel_rfl) (fun _ _ _ h => h) (Or.inl ⟨by rfl, ?hy2⟩) hH ?rest2
  case hy2 => (intro w hSw; (try dsimp only at hSw); go_simp; try with_reducible rfl)
  try simp only [Act.put, List.setIfInBounds_toArray, List.set_cons_zero, List.set_cons_succ, List.getElem_toArray, List.getElem_cons_zero, List.getElem_cons_succ]
  refine wpAnyH_take (i := 2) (v := ?v3) rfl (by kernel_rfl) (by kernel_rfl) (by kernel_rfl) (fun _ _ _ h => h) (Or.inl ⟨by rfl, ?hy3⟩) hH ?rest3
  case hy3 => (intro w hSw; (try dsimp only at hSw); go_simp; try with_reducible rfl)
  try simp only [Act.put, List.setIfInBounds_toArray, List.set_cons_zero, List.set_cons_succ, List.getElem_toArray, List.getElem_cons_zero, List.getElem_cons_succ]
  refine wpAnyH_take (i := 3) (v := ?v4) rfl (by kernel_rfl) (by kernel_rfl) (by kernel_rfl) (fun _ _ _ h => h) (Or.inl ⟨by rfl, ?hy4⟩) hH ?rest4
  case hy4 => (intro w hSw; (try dsimp only at hSw); go_simp; try with_reducible rfl)
  try simp only [Act.put, List.setIfInBounds_toArray, List.set_cons_zero, List.set_cons_succ, List.getElem_toArray, List.getElem_cons_zero, List.getElem_cons_succ]
  refine wpAnyH_take (i := 4) (v := ?v5) rfl (by kernel_rfl) (by kernel_rfl) (by kernel_rfl) (fun _ _ _ h => h) (Or.inl ⟨by rfl, ?hy5⟩) hH ?rest5
  case hy5 => (intro w hSw; (try dsimp only at hSw); go_simp; try with_reducible rfl)
  try simp only [Act.put, List.setIfInBounds_toArray, List.set_cons_zero, List.set_cons_succ, List.getElem_toArray, List.getElem_cons_zero, List.getElem_cons_succ]
  refine wpAnyH_take (i := 5) (v := ?v6) rfl (by kernel_rfl) (by kernel_rfl) (by kernel_rfl) (fun _ _ _ h => h) (Or.inl ⟨by rfl, ?hy6⟩) hH ?rest6
  case hy6 => (intro w hSw; (try dsimp only at hSw); go_simp; try with_reducible rfl)
  try simp only [Act.put, List.setIfInBounds_toArray, List.set_cons_zero, List.set_cons_succ, List.getElem_toArray, List.getElem_cons_zero, List.getElem_cons_succ]
  refine wpAnyH_take (i := 6) (v := ?v7) rfl (by kernel_rfl) (by kernel_rfl) (by kernel_rfl) (fun _ _ _ h => h) (Or.inl ⟨by rfl, ?hy7⟩) hH ?rest7
  case hy7 => (intro w hSw; (try dsimp only at hSw); go_simp; try with_reducible rfl)
  try simp only [Act.put, List.setIfInBounds_toArray, List.set_cons_zero, List.set_cons_succ, List.getElem_toArray, List.getElem_cons_zero, List.getElem_cons_succ]
  refine wpAnyH_take (i := 7) (v := ?v8) rfl (by kernel_rfl) (by kernel_rfl) (by kernel_rfl) (fun _ _ _ h => h) (Or.inl ⟨by rfl, ?hy8⟩) hH ?rest8
  case hy8 => (intro w hSw; (try dsimp only at hSw); obtain ⟨⟨p0, p1, p2, p3, p4, p5, p6, p7, p8, p9, p10, p11, p12⟩, ⟨q0, q1, q2, q3, q4, q5, q6, q7, q8, q9, q10, q11, q12⟩⟩ := SB.out w hSw; go_simp; try with_reducible rfl)
  try simp only [Act.put, List.setIfInBounds_toArray, List.set_cons_zero, List.set_cons_succ, List.getElem_toArray, List.getElem_cons_zero, List.getElem_cons_succ]
  refine wpAnyH_take (i := 8) (v := ?v9) rfl (by kernel_rfl) (by kernel_rfl) (by kernel_rfl) (fun _ _ _ h => h) (Or.inl ⟨by rfl, ?hy9⟩) hH ?rest9
  case hy9 => (intro w hSw; (try dsimp only at hSw); go_simp; try with_reducible rfl)
  try simp only [Act.put, List.setIfInBounds_toArray, List.set_cons_zero, List.set_cons_succ, List.getElem_toArray, List.getElem_cons_zero, List.getElem_cons_succ]
  refine wpAnyH_take (i := 10) (v := ?v10) rfl (by kernel_rfl) (by kernel_rfl) (by kernel_rfl) (fun _ _ _ h => h) (Or.inl ⟨by rfl, ?hy10⟩) hH ?rest10
  case hy10 => (intro w hSw; (try dsimp only at hSw); obtain ⟨⟨p0, p1, p2, p3, p4, p5, p6, p7, p8, p9, p10, p11, p12⟩, ⟨q0, q1, q2, q3, q4, q5, q6, q7, q8, q9, q10, q11, q12⟩⟩ := SB.out w hSw; go_simp; try with_reducible rfl)
  try simp only [Act.put, List.setIfInBounds_toArray, List.set_cons_zero, List.set_cons_succ, List.getElem_toArray, List.getElem_cons_zero, List.getElem_cons_succ]
  refine wpAnyH_take (i := 11) (v := ?v11) rfl (by kernel_rfl) (by kernel_rfl) (by kernel_rfl) (fun _ _ _ h => h) (Or.inl ⟨by rfl, ?hy11⟩) hH ?rest11
  case hy11 => (intro w hSw; (try dsimp only at hSw); go_simp; try with_reducible rfl)
  try simp only [Act.put, List.setIfInBounds_toArray, List.set_cons_zero, List.set_cons_succ, List.getElem_toArray, List.getElem_cons_zero, List.getElem_cons_succ]
  refine wpAnyH_ready (rs := [9]) (by kernel_rfl) (by simp) ?_
  refine AllReadyH.cons rfl (fun K hK => ?_) AllReadyH.nil
  go_simp
  go_at_call 11
  with_reducible refine (C1 _ hH).out.mono ?_
  rintro e wq12 ⟨rfl, bq12⟩
  go_wp2_with fail
  refine hK.out _ _ (hH.trans (bq12.mono hH.size)) (fun hH2 => ?_)
  clear hK K hH
  have hH := hH2
  clear hH2
  try simp only [Act.put, List.setIfInBounds_toArray, List.set_cons_zero, List.set_cons_succ, List.getElem_toArray, List.getElem_cons_zero, List.getElem_cons_succ]
  refine wpAnyH_ready (rs := [12]) (by kernel_rfl) (by simp) ?_
  refine AllReadyH.cons rfl (fun K hK => ?_) AllReadyH.nil
  go_simp
  go_at_call 12
  with_reducible refine (C2 _ hH).out.mono ?_
  rintro e wq13 ⟨rfl, bq13⟩
  go_wp2_with fail
  refine hK.out _ _ (hH.trans (bq13.mono hH.size)) (fun hH2 => ?_)
  clear hK K hH
  have hH := hH2
  clear hH2
  try simp only [Act.put, List.setIfInBounds_toArray, List.set_cons_zero, List.set_cons_succ, List.getElem_toArray, List.getElem_cons_zero, List.getElem_cons_succ]
  refine wpAnyH_take (i := 13) (v := ?v14) rfl (by kernel_rfl) (by kernel_rfl) (by kernel_rfl) (fun _ _ _ h => h) (Or.inl ⟨by rfl, ?hy14⟩) hH ?rest14
  case hy14 => (intro w hSw; (try dsimp only at hSw); go_simp; try with_reducible rfl)
  try simp only [Act.put, List.setIfInBounds_toArray, List.set_cons_zero, List.set_cons_succ, List.getElem_toArray, List.getElem_cons_zero, List.getElem_cons_succ]
  refine wpAnyH_take (i := 14) (v := ?v15) rfl (by kernel_rfl) (by kernel_rfl) (by kernel_rfl) (fun _ _ _ h => h) (Or.inl ⟨by rfl, ?hy15⟩) hH ?rest15
  case hy15 => (intro w hSw; (try dsimp only at hSw); go_simp; try with_reducible rfl)
  try simp only [Act.put, List.setIfInBounds_toArray, List.set_cons_zero, List.set_cons_succ, List.getElem_toArray, List.getElem_cons_zero, List.getElem_cons_succ]
  refine wpAnyH_take (i := 15) (v := ?v16) rfl (by kernel_rfl) (by kernel_rfl) (by kernel_rfl) (fun _ _ _ h => h) (Or.inl ⟨by rfl, ?hy16⟩) hH ?rest16
  case hy16 => (intro w hSw; (try dsimp only at hSw); go_simp; try with_reducible rfl)
  try simp only [Act.put, List.setIfInBounds_toArray, List.set_cons_zero, List.set_cons_succ, List.getElem_toArray, List.getElem_cons_zero, List.getElem_cons_succ]
  refine wpAnyH_take (i := 16) (v := ?v17) rfl (by kernel_rfl) (by kernel_rfl) (by kernel_rfl) (fun _ _ _ h => h) (Or.inl ⟨by rfl, ?hy17⟩) hH ?rest17
  case hy17 => (intro w hSw; (try dsimp only at hSw); obtain ⟨⟨p0, p1, p2, p3, p4, p5, p6, p7, p8, p9, p10, p11, p12⟩, ⟨q0, q1, q2, q3, q4, q5, q6, q7, q8, q9, q10, q11, q12⟩⟩ := SB.out w hSw; go_simp; try with_reducible rfl)
  try simp only [Act.put, List.setIfInBounds_toArray, List.set_cons_zero, List.set_cons_succ, List.getElem_toArray, List.getElem_cons_zero, List.getElem_cons_succ]
  refine wpAnyH_take (i := 17) (v := ?v18) rfl (by kernel_rfl) (by kernel_rfl) (by kernel_rfl) (fun _ _ _ h => h) (Or.inl ⟨by rfl, ?hy18⟩) hH ?rest18
  case hy18 => (intro w hSw; (try dsimp only at hSw); obtain ⟨⟨p0, p1, p2, p3, p4, p5, p6, p7, p8, p9, p10, p11, p12⟩, ⟨q0, q1, q2, q3, q4, q5, q6, q7, q8, q9, q10, q11, q12⟩⟩ := SB.out w hSw; go_simp; try with_reducible rfl)
  try simp only [Act.put, List.setIfInBounds_toArray, List.set_cons_zero, List.set_cons_succ, List.getElem_toArray, List.getElem_cons_zero, List.getElem_cons_succ]
  refine wpAnyH_take (i := 19) (v := ?v19) rfl (by kernel_rfl) (by kernel_rfl) (by kernel_rfl) (fun _ _ _ h => h) (Or.inl ⟨by rfl, ?hy19⟩) hH ?rest19
  case hy19 => (intro w hSw; (try dsimp only at hSw); obtain ⟨⟨p0, p1, p2, p3, p4, p5, p6, p7, p8, p9, p10, p11, p12⟩, ⟨q0, q1, q2, q3, q4, q5, q6, q7, q8, q9, q10, q11, q12⟩⟩ := SB.out w hSw; go_simp; try with_reducible rfl)
  try simp only [Act.put, List.setIfInBounds_toArray, List.set_cons_zero, List.set_cons_succ, List.getElem_toArray, List.getElem_cons_zero, List.getElem_cons_succ]
  refine wpAnyH_take (i := 20) (v := ?v20) rfl (by kernel_rfl) (by kernel_rfl) (by kernel_rfl) (fun _ _ _ h => h) (Or.inl ⟨by rfl, ?hy20⟩) hH ?rest20
  case hy20 => (intro w hSw; (try dsimp only at hSw); obtain ⟨⟨p0, p1, p2, p3, p4, p5, p6, p7, p8, p9, p10, p11, p12⟩, ⟨q0, q1, q2, q3, q4, q5, q6, q7, q8, q9, q10, q11, q12⟩⟩ := SB.out w hSw; go_simp; try with_reducible rfl)
  try simp only [Act.put, List.setIfInBounds_toArray, List.set_cons_zero, List.set_cons_succ, List.getElem_toArray, List.getElem_cons_zero, List.getElem_cons_succ]
  refine wpAnyH_ready (rs := [18]) (by kernel_rfl) (by simp) ?_
  refine AllReadyH.cons rfl (fun K hK => ?_) AllReadyH.nil
  go_simp
  go_at_call 13
  with_reducible refine (C3 _ hH).out.mono ?_
  rintro e wq21 ⟨rfl, bq21⟩
  go_wp2_with fail
  refine hK.out _ _ (hH.trans (bq21.mono hH.size)) (fun hH2 => ?_)
  clear hK K hH
  have hH := hH2
  clear hH2
  try simp only [Act.put, List.setIfInBounds_toArray, List.set_cons_zero, List.set_cons_succ, List.getElem_toArray, List.getElem_cons_zero, List.getElem_cons_succ]
  refine wpAnyH_ready (rs := [21]) (by kernel_rfl) (by simp) ?_
  refine AllReadyH.cons rfl (fun K hK => ?_) AllReadyH.nil
  go_simp
  go_at_call 10
  with_reducible refine (C4 _ hH).out.mono ?_
  rintro e wq22 ⟨rfl, bq22⟩
  go_wp2_with fail
  refine hK.out _ _ (hH.trans (bq22.mono hH.size)) (fun hH2 => ?_)
  clear hK K hH
  have hH := hH2
  clear hH2
  try simp only [Act.put, List.setIfInBounds_toArray, List.set_cons_zero, List.set_cons_succ, List.getElem_toArray, List.getElem_cons_zero, List.getElem_cons_succ]
  refine wpAnyH_take (i := 22) (v := ?v23) rfl (by kernel_rfl) (by kernel_rfl) (by kernel_rfl) (fun _ _ _ h => h) (Or.inl ⟨by rfl, ?hy23⟩) hH ?rest23
  case hy23 => (intro w hSw; (try dsimp only at hSw); go_simp; try with_reducible rfl)
  try simp only [Act.put, List.setIfInBounds_toArray, List.set_cons_zero, List.set_cons_succ, List.getElem_toArray, List.getElem_cons_zero, List.getElem_cons_succ]
  refine wpAnyH_take (i := 23) (v := ?v24) rfl (by kernel_rfl) (by kernel_rfl) (by kernel_rfl) (fun _ _ _ h => h) (Or.inl ⟨by rfl, ?hy24⟩) hH ?rest24
  case hy24 => (intro w hSw; (try dsimp only at hSw); go_simp; try with_reducible rfl)
  try simp only [Act.put, List.setIfInBounds_toArray, List.set_cons_zero, List.set_cons_succ, List.getElem_toArray, List.getElem_cons_zero, List.getElem_cons_succ]
  refine wpAnyH_take (i := 24) (v := ?v25) rfl (by kernel_rfl) (by kernel_rfl) (by kernel_rfl) (fun _ _ _ h => h) (Or.inl ⟨by rfl, ?hy25⟩) hH ?rest25
  case hy25 => (intro w hSw; (try dsimp only at hSw); go_simp; try with_reducible rfl)
  try simp only [Act.put, List.setIfInBounds_toArray, List.set_cons_zero, List.set_cons_succ, List.getElem_toArray, List.getElem_cons_zero, List.getElem_cons_succ]
  refine wpAnyH_done (by kernel_rfl) ?_ _
  go_wp2
  go_ret
  exact ⟨rfl, HB.out.trans (hH.mono HB.out.size)⟩

theorem steps_any (r : Rd) (p : Sd) (o : Rd) (A A' A'' : Option Addr) (c c' c'' : Nat) (n : Int) (w : World) (hN : Nd w) (hs : At.Sl w w.heap.size .i64 A r.xs) (hs' : At.Sl w w.heap.size .i64 A' p.xs) (hs'' : At.Sl w w.heap.size .i64 A'' o.xs) : Calls Tryd.prog 3 #[rv r A c, sv p A' c', rv o A'' c'', .int .i64 n] w (UpPost w) := by
  rcases hf : fw r with _ | _
  · exact steps_a r p o A A' A'' c c' c'' n w hN hs hs' hs'' hf
  rcases hk : fw o with _ | _
  · exact steps_b r p o A A' A'' c c' c'' n w hN hs hs' hs'' hf hk
  rcases hg : decide ((p.xs.length : Int) ≤ 50) with _ | _
  · exact steps_c r p o A A' A'' c c' c'' n w hN hs hs' hs'' hf hk hg
  · exact steps_go r p o A A' A'' c c' c'' n w hN hs hs' hs'' hf hk hg

end Go.Proofs.YtdeaaeejkpghaaaDoor.In
