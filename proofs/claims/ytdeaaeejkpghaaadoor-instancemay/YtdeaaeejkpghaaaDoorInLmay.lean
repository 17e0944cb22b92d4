/-
  The walk of the law InstanceMay: what may be known may be behind each step.
-/
import Derived.Test.YtdeaaeejkpghaaaDoorInMm
import Derived.Test.YtdeaaeejkpghaaaDoorInDoes
import Derived.Test.YtdeaaeejkpghaaaDoorInAwk
import Derived.Deep.RegionHeld3
import Derived.Deep.DeepCutAuto
namespace Go.Proofs.YtdeaaeejkpghaaaDoor.In
open Go.RowKit
set_option linter.unusedVariables false
attribute [local go_sem ↓ high] Ba.eq23 Ba.guard23 Ba.neq23 Ba.guard23n eqc guardc


set_option maxHeartbeats 4000000 in
theorem lmay_a (r : Rd) (p : Sd) (A A' : Option Addr) (c c' : Nat) (n : Int) (w : World) (hN : Nd w) (hs : At.Sl w w.heap.size .i64 A r.xs) (hs' : At.Sl w w.heap.size .i64 A' p.xs) (hf : fw r = false) : Calls Tryd.prog 4 #[rv r A c, sv p A' c', .int .i64 n] w (UpPost w) := by
  have HA : ∀ W, Hid (Calls Tryd.prog 5 #[] W (UpPost W)) := fun W => awake_any W
  have HF : ∀ W, Hid (Calls Tryd.prog 6 #[rv r A c] W (BoolPost W (fw r))) := fun W => few9_any r A c W
  have HG : ∀ W, Hid (Calls Tryd.prog 7 #[av p.q A' p.xs.length c'] W (At.BoolPost W (decide ((p.xs.length : Int) ≤ 50)))) := fun W => At.few_any p.q A' p.xs.length c' W
  have HM : ∀ W, Nd W → At.Sl W W.heap.size .i64 A r.xs → Hid (Calls Tryd.prog 11 #[rv r A c, .int .i64 n] W (BoolPost W (ym r n))) := fun W h g => imay_any r A c n W h g
  rw [hf] at HF
  generalize decide ((p.xs.length : Int) ≤ 50) = G at *
  generalize ym r n = y9 at *
  have X0 : Rx ((w.alloc (.cells (rcs r A c) 30)).alloc (.cells (scs p A' c') 32)) (w.heap.size) r A c := by
    have h0 := rx_new w r A c
    exact (h0.old _)
  have P0 : Sb ((w.alloc (.cells (rcs r A c) 30)).alloc (.cells (scs p A' c') 32)) (w.heap.size + 1) p A' c' := by
    have h0 := sb_new (w.alloc (.cells (rcs r A c) 30)) p A' c'
    rw [show (w.alloc (.cells (rcs r A c) 30)).heap.size = w.heap.size + 1 by simp] at h0
    exact h0
  have B0 : Below w.heap.size w ((w.alloc (.cells (rcs r A c) 30)).alloc (.cells (scs p A' c') 32)) := (((Below.refl _ _).alloc (Nat.le_refl _) _).alloc (by first | (simp; done) | (simp; omega)) _)
  have S0 := hs.to B0 B0.size
  have T0 := hs'.to B0 B0.size
  go_enter Tryd.func4, Tryd.ntmps4
  go_wp2_with fail
  generalize ((w.alloc (.cells (rcs r A c) 30)).alloc (.cells (scs p A' c') 32)) = W0 at *
  have N0 := hN.on B0
  refine (HA _).out.mono ?_
  rintro e w1 ⟨rfl, b1⟩
  have B1 := B0.trans (b1.mono B0.size)
  have X1 := X0.on b1 X0.lt
  have P1 := P0.on b1 P0.lt
  have S1 := S0.up b1
  have T1 := T0.up b1
  have N1 := N0.on b1
  clear B0 X0 P0 S0 T0 N0
  clear b1
  obtain ⟨x_0, x_1, x_2, x_3, x_4, x_5, x_6, x_7, x_8, x_9, x_10, x_11, x_12⟩ := id X1.rb
  obtain ⟨p_0, p_1, p_2, p_3, p_4, p_5, p_6, p_7, p_8, p_9, p_10⟩ := id P1
  go_wp2_with fail
  clear x_0 x_1 x_2 x_3 x_4 x_5 x_6 x_7 x_8 x_9 x_10 x_11 x_12 p_0 p_1 p_2 p_3 p_4 p_5 p_6 p_7 p_8 p_9 p_10
  refine (HF _).out.mono ?_
  rintro e w2 ⟨rfl, b2⟩
  have B2 := B1.trans (b2.mono B1.size)
  have X2 := X1.on b2 X1.lt
  have P2 := P1.on b2 P1.lt
  have S2 := S1.up b2
  have T2 := T1.up b2
  have N2 := N1.on b2
  clear B1 X1 P1 S1 T1 N1
  clear b2
  obtain ⟨x_0, x_1, x_2, x_3, x_4, x_5, x_6, x_7, x_8, x_9, x_10, x_11, x_12⟩ := id X2.rb
  obtain ⟨p_0, p_1, p_2, p_3, p_4, p_5, p_6, p_7, p_8, p_9, p_10⟩ := id P2
  go_wp2_with fail
  clear x_0 x_1 x_2 x_3 x_4 x_5 x_6 x_7 x_8 x_9 x_10 x_11 x_12 p_0 p_1 p_2 p_3 p_4 p_5 p_6 p_7 p_8 p_9 p_10
  refine (HG _).out.mono ?_
  rintro e w3 ⟨rfl, b3⟩
  have B3 := B2.trans (b3.mono B2.size)
  have X3 := X2.on b3 X2.lt
  have P3 := P2.on b3 P2.lt
  have S3 := S2.up b3
  have T3 := T2.up b3
  have N3 := N2.on b3
  clear B2 X2 P2 S2 T2 N2
  clear b3
  obtain ⟨x_0, x_1, x_2, x_3, x_4, x_5, x_6, x_7, x_8, x_9, x_10, x_11, x_12⟩ := id X3.rb
  obtain ⟨p_0, p_1, p_2, p_3, p_4, p_5, p_6, p_7, p_8, p_9, p_10⟩ := id P3
  go_wp2
  go_ret
  exact ⟨rfl, B3⟩

set_option maxHeartbeats 4000000 in
theorem lmay_b (r : Rd) (p : Sd) (A A' : Option Addr) (c c' : Nat) (n : Int) (w : World) (hN : Nd w) (hs : At.Sl w w.heap.size .i64 A r.xs) (hs' : At.Sl w w.heap.size .i64 A' p.xs) (hf : fw r = true) (hg : decide ((p.xs.length : Int) ≤ 50) = false) : Calls Tryd.prog 4 #[rv r A c, sv p A' c', .int .i64 n] w (UpPost w) := by
  have HA : ∀ W, Hid (Calls Tryd.prog 5 #[] W (UpPost W)) := fun W => awake_any W
  have HF : ∀ W, Hid (Calls Tryd.prog 6 #[rv r A c] W (BoolPost W (fw r))) := fun W => few9_any r A c W
  have HG : ∀ W, Hid (Calls Tryd.prog 7 #[av p.q A' p.xs.length c'] W (At.BoolPost W (decide ((p.xs.length : Int) ≤ 50)))) := fun W => At.few_any p.q A' p.xs.length c' W
  have HM : ∀ W, Nd W → At.Sl W W.heap.size .i64 A r.xs → Hid (Calls Tryd.prog 11 #[rv r A c, .int .i64 n] W (BoolPost W (ym r n))) := fun W h g => imay_any r A c n W h g
  rw [hf] at HF
  rw [hg] at HG
  generalize ym r n = y9 at *
  have X0 : Rx ((w.alloc (.cells (rcs r A c) 30)).alloc (.cells (scs p A' c') 32)) (w.heap.size) r A c := by
    have h0 := rx_new w r A c
    exact (h0.old _)
  have P0 : Sb ((w.alloc (.cells (rcs r A c) 30)).alloc (.cells (scs p A' c') 32)) (w.heap.size + 1) p A' c' := by
    have h0 := sb_new (w.alloc (.cells (rcs r A c) 30)) p A' c'
    rw [show (w.alloc (.cells (rcs r A c) 30)).heap.size = w.heap.size + 1 by simp] at h0
    exact h0
  have B0 : Below w.heap.size w ((w.alloc (.cells (rcs r A c) 30)).alloc (.cells (scs p A' c') 32)) := (((Below.refl _ _).alloc (Nat.le_refl _) _).alloc (by first | (simp; done) | (simp; omega)) _)
  have S0 := hs.to B0 B0.size
  have T0 := hs'.to B0 B0.size
  go_enter Tryd.func4, Tryd.ntmps4
  go_wp2_with fail
  generalize ((w.alloc (.cells (rcs r A c) 30)).alloc (.cells (scs p A' c') 32)) = W0 at *
  have N0 := hN.on B0
  refine (HA _).out.mono ?_
  rintro e w1 ⟨rfl, b1⟩
  have B1 := B0.trans (b1.mono B0.size)
  have X1 := X0.on b1 X0.lt
  have P1 := P0.on b1 P0.lt
  have S1 := S0.up b1
  have T1 := T0.up b1
  have N1 := N0.on b1
  clear B0 X0 P0 S0 T0 N0
  clear b1
  obtain ⟨x_0, x_1, x_2, x_3, x_4, x_5, x_6, x_7, x_8, x_9, x_10, x_11, x_12⟩ := id X1.rb
  obtain ⟨p_0, p_1, p_2, p_3, p_4, p_5, p_6, p_7, p_8, p_9, p_10⟩ := id P1
  go_wp2_with fail
  clear x_0 x_1 x_2 x_3 x_4 x_5 x_6 x_7 x_8 x_9 x_10 x_11 x_12 p_0 p_1 p_2 p_3 p_4 p_5 p_6 p_7 p_8 p_9 p_10
  refine (HF _).out.mono ?_
  rintro e w2 ⟨rfl, b2⟩
  have B2 := B1.trans (b2.mono B1.size)
  have X2 := X1.on b2 X1.lt
  have P2 := P1.on b2 P1.lt
  have S2 := S1.up b2
  have T2 := T1.up b2
  have N2 := N1.on b2
  clear B1 X1 P1 S1 T1 N1
  clear b2
  obtain ⟨x_0, x_1, x_2, x_3, x_4, x_5, x_6, x_7, x_8, x_9, x_10, x_11, x_12⟩ := id X2.rb
  obtain ⟨p_0, p_1, p_2, p_3, p_4, p_5, p_6, p_7, p_8, p_9, p_10⟩ := id P2
  go_wp2_with fail
  clear x_0 x_1 x_2 x_3 x_4 x_5 x_6 x_7 x_8 x_9 x_10 x_11 x_12 p_0 p_1 p_2 p_3 p_4 p_5 p_6 p_7 p_8 p_9 p_10
  refine (HG _).out.mono ?_
  rintro e w3 ⟨rfl, b3⟩
  have B3 := B2.trans (b3.mono B2.size)
  have X3 := X2.on b3 X2.lt
  have P3 := P2.on b3 P2.lt
  have S3 := S2.up b3
  have T3 := T2.up b3
  have N3 := N2.on b3
  clear B2 X2 P2 S2 T2 N2
  clear b3
  obtain ⟨x_0, x_1, x_2, x_3, x_4, x_5, x_6, x_7, x_8, x_9, x_10, x_11, x_12⟩ := id X3.rb
  obtain ⟨p_0, p_1, p_2, p_3, p_4, p_5, p_6, p_7, p_8, p_9, p_10⟩ := id P3
  go_wp2
  go_ret
  exact ⟨rfl, B3⟩

set_option maxHeartbeats 4000000 in
theorem lmay_c (r : Rd) (p : Sd) (A A' : Option Addr) (c c' : Nat) (n : Int) (w : World) (hN : Nd w) (hs : At.Sl w w.heap.size .i64 A r.xs) (hs' : At.Sl w w.heap.size .i64 A' p.xs) (hf : fw r = true) (hg : decide ((p.xs.length : Int) ≤ 50) = true) (hm : ym r n = false) : Calls Tryd.prog 4 #[rv r A c, sv p A' c', .int .i64 n] w (UpPost w) := by
  have HA : ∀ W, Hid (Calls Tryd.prog 5 #[] W (UpPost W)) := fun W => awake_any W
  have HF : ∀ W, Hid (Calls Tryd.prog 6 #[rv r A c] W (BoolPost W (fw r))) := fun W => few9_any r A c W
  have HG : ∀ W, Hid (Calls Tryd.prog 7 #[av p.q A' p.xs.length c'] W (At.BoolPost W (decide ((p.xs.length : Int) ≤ 50)))) := fun W => At.few_any p.q A' p.xs.length c' W
  have HM : ∀ W, Nd W → At.Sl W W.heap.size .i64 A r.xs → Hid (Calls Tryd.prog 11 #[rv r A c, .int .i64 n] W (BoolPost W (ym r n))) := fun W h g => imay_any r A c n W h g
  rw [hf] at HF
  rw [hg] at HG
  rw [hm] at HM
  have X0 : Rx ((w.alloc (.cells (rcs r A c) 30)).alloc (.cells (scs p A' c') 32)) (w.heap.size) r A c := by
    have h0 := rx_new w r A c
    exact (h0.old _)
  have P0 : Sb ((w.alloc (.cells (rcs r A c) 30)).alloc (.cells (scs p A' c') 32)) (w.heap.size + 1) p A' c' := by
    have h0 := sb_new (w.alloc (.cells (rcs r A c) 30)) p A' c'
    rw [show (w.alloc (.cells (rcs r A c) 30)).heap.size = w.heap.size + 1 by simp] at h0
    exact h0
  have B0 : Below w.heap.size w ((w.alloc (.cells (rcs r A c) 30)).alloc (.cells (scs p A' c') 32)) := (((Below.refl _ _).alloc (Nat.le_refl _) _).alloc (by first | (simp; done) | (simp; omega)) _)
  have S0 := hs.to B0 B0.size
  have T0 := hs'.to B0 B0.size
  go_enter Tryd.func4, Tryd.ntmps4
  go_wp2_with fail
  generalize ((w.alloc (.cells (rcs r A c) 30)).alloc (.cells (scs p A' c') 32)) = W0 at *
  have N0 := hN.on B0
  refine (HA _).out.mono ?_
  rintro e w1 ⟨rfl, b1⟩
  have B1 := B0.trans (b1.mono B0.size)
  have X1 := X0.on b1 X0.lt
  have P1 := P0.on b1 P0.lt
  have S1 := S0.up b1
  have T1 := T0.up b1
  have N1 := N0.on b1
  clear B0 X0 P0 S0 T0 N0
  clear b1
  obtain ⟨x_0, x_1, x_2, x_3, x_4, x_5, x_6, x_7, x_8, x_9, x_10, x_11, x_12⟩ := id X1.rb
  obtain ⟨p_0, p_1, p_2, p_3, p_4, p_5, p_6, p_7, p_8, p_9, p_10⟩ := id P1
  go_wp2_with fail
  clear x_0 x_1 x_2 x_3 x_4 x_5 x_6 x_7 x_8 x_9 x_10 x_11 x_12 p_0 p_1 p_2 p_3 p_4 p_5 p_6 p_7 p_8 p_9 p_10
  refine (HF _).out.mono ?_
  rintro e w2 ⟨rfl, b2⟩
  have B2 := B1.trans (b2.mono B1.size)
  have X2 := X1.on b2 X1.lt
  have P2 := P1.on b2 P1.lt
  have S2 := S1.up b2
  have T2 := T1.up b2
  have N2 := N1.on b2
  clear B1 X1 P1 S1 T1 N1
  clear b2
  obtain ⟨x_0, x_1, x_2, x_3, x_4, x_5, x_6, x_7, x_8, x_9, x_10, x_11, x_12⟩ := id X2.rb
  obtain ⟨p_0, p_1, p_2, p_3, p_4, p_5, p_6, p_7, p_8, p_9, p_10⟩ := id P2
  go_wp2_with fail
  clear x_0 x_1 x_2 x_3 x_4 x_5 x_6 x_7 x_8 x_9 x_10 x_11 x_12 p_0 p_1 p_2 p_3 p_4 p_5 p_6 p_7 p_8 p_9 p_10
  refine (HG _).out.mono ?_
  rintro e w3 ⟨rfl, b3⟩
  have B3 := B2.trans (b3.mono B2.size)
  have X3 := X2.on b3 X2.lt
  have P3 := P2.on b3 P2.lt
  have S3 := S2.up b3
  have T3 := T2.up b3
  have N3 := N2.on b3
  clear B2 X2 P2 S2 T2 N2
  clear b3
  obtain ⟨x_0, x_1, x_2, x_3, x_4, x_5, x_6, x_7, x_8, x_9, x_10, x_11, x_12⟩ := id X3.rb
  obtain ⟨p_0, p_1, p_2, p_3, p_4, p_5, p_6, p_7, p_8, p_9, p_10⟩ := id P3
  go_wp2_with fail
  clear x_0 x_1 x_2 x_3 x_4 x_5 x_6 x_7 x_8 x_9 x_10 x_11 x_12 p_0 p_1 p_2 p_3 p_4 p_5 p_6 p_7 p_8 p_9 p_10
  refine (HM _ N3 S3).out.mono ?_
  rintro e w4 ⟨rfl, b4⟩
  have B4 := B3.trans (b4.mono B3.size)
  have X4 := X3.on b4 X3.lt
  have P4 := P3.on b4 P3.lt
  have S4 := S3.up b4
  have T4 := T3.up b4
  have N4 := N3.on b4
  clear B3 X3 P3 S3 T3 N3
  clear b4
  obtain ⟨x_0, x_1, x_2, x_3, x_4, x_5, x_6, x_7, x_8, x_9, x_10, x_11, x_12⟩ := id X4.rb
  obtain ⟨p_0, p_1, p_2, p_3, p_4, p_5, p_6, p_7, p_8, p_9, p_10⟩ := id P4
  go_wp2
  go_ret
  exact ⟨rfl, B4⟩

set_option maxHeartbeats 4000000 in
theorem lmay_d (r : Rd) (p : Sd) (A A' : Option Addr) (c c' : Nat) (n : Int) (w : World) (hN : Nd w) (hs : At.Sl w w.heap.size .i64 A r.xs) (hs' : At.Sl w w.heap.size .i64 A' p.xs) (hf : fw r = true) (hg : decide ((p.xs.length : Int) ≤ 50) = true) (hm : ym r n = true) (hv : ym (vo p) n = false) : Calls Tryd.prog 4 #[rv r A c, sv p A' c', .int .i64 n] w (UpPost w) := by
  have HA : ∀ W, Hid (Calls Tryd.prog 5 #[] W (UpPost W)) := fun W => awake_any W
  have HF : ∀ W, Hid (Calls Tryd.prog 6 #[rv r A c] W (BoolPost W (fw r))) := fun W => few9_any r A c W
  have HG : ∀ W, Hid (Calls Tryd.prog 7 #[av p.q A' p.xs.length c'] W (At.BoolPost W (decide ((p.xs.length : Int) ≤ 50)))) := fun W => At.few_any p.q A' p.xs.length c' W
  have HM : ∀ W, Nd W → At.Sl W W.heap.size .i64 A r.xs → Hid (Calls Tryd.prog 11 #[rv r A c, .int .i64 n] W (BoolPost W (ym r n))) := fun W h g => imay_any r A c n W h g
  rw [hf] at HF
  rw [hg] at HG
  rw [hm] at HM
  have HMV : ∀ W, Nd W → At.Sl W W.heap.size .i64 A' p.xs → Hid (Calls Tryd.prog 11 #[.agg #[.int .i64 2, .int .i64 0, .int .i64 1, .int .i64 0, .int .i64 1, .int .i64 p.u, .int .i64 p.s, .int .i64 p.k, .int .i64 p.h, .int .i64 p.n, .string p.t, .int .i64 p.q, .slice A' p.xs.length c'], .int .i64 n] W (BoolPost W (ym (vo p) n))) := fun W h g => imay_any (vo p) A' c' n W h g
  rw [hv] at HMV
  have X0 : Rx ((w.alloc (.cells (rcs r A c) 30)).alloc (.cells (scs p A' c') 32)) (w.heap.size) r A c := by
    have h0 := rx_new w r A c
    exact (h0.old _)
  have P0 : Sb ((w.alloc (.cells (rcs r A c) 30)).alloc (.cells (scs p A' c') 32)) (w.heap.size + 1) p A' c' := by
    have h0 := sb_new (w.alloc (.cells (rcs r A c) 30)) p A' c'
    rw [show (w.alloc (.cells (rcs r A c) 30)).heap.size = w.heap.size + 1 by simp] at h0
    exact h0
  have B0 : Below w.heap.size w ((w.alloc (.cells (rcs r A c) 30)).alloc (.cells (scs p A' c') 32)) := (((Below.refl _ _).alloc (Nat.le_refl _) _).alloc (by first | (simp; done) | (simp; omega)) _)
  have S0 := hs.to B0 B0.size
  have T0 := hs'.to B0 B0.size
  go_enter Tryd.func4, Tryd.ntmps4
  go_wp2_with fail
  generalize ((w.alloc (.cells (rcs r A c) 30)).alloc (.cells (scs p A' c') 32)) = W0 at *
  have N0 := hN.on B0
  refine (HA _).out.mono ?_
  rintro e w1 ⟨rfl, b1⟩
  have B1 := B0.trans (b1.mono B0.size)
  have X1 := X0.on b1 X0.lt
  have P1 := P0.on b1 P0.lt
  have S1 := S0.up b1
  have T1 := T0.up b1
  have N1 := N0.on b1
  clear B0 X0 P0 S0 T0 N0
  clear b1
  obtain ⟨x_0, x_1, x_2, x_3, x_4, x_5, x_6, x_7, x_8, x_9, x_10, x_11, x_12⟩ := id X1.rb
  obtain ⟨p_0, p_1, p_2, p_3, p_4, p_5, p_6, p_7, p_8, p_9, p_10⟩ := id P1
  go_wp2_with fail
  clear x_0 x_1 x_2 x_3 x_4 x_5 x_6 x_7 x_8 x_9 x_10 x_11 x_12 p_0 p_1 p_2 p_3 p_4 p_5 p_6 p_7 p_8 p_9 p_10
  refine (HF _).out.mono ?_
  rintro e w2 ⟨rfl, b2⟩
  have B2 := B1.trans (b2.mono B1.size)
  have X2 := X1.on b2 X1.lt
  have P2 := P1.on b2 P1.lt
  have S2 := S1.up b2
  have T2 := T1.up b2
  have N2 := N1.on b2
  clear B1 X1 P1 S1 T1 N1
  clear b2
  obtain ⟨x_0, x_1, x_2, x_3, x_4, x_5, x_6, x_7, x_8, x_9, x_10, x_11, x_12⟩ := id X2.rb
  obtain ⟨p_0, p_1, p_2, p_3, p_4, p_5, p_6, p_7, p_8, p_9, p_10⟩ := id P2
  go_wp2_with fail
  clear x_0 x_1 x_2 x_3 x_4 x_5 x_6 x_7 x_8 x_9 x_10 x_11 x_12 p_0 p_1 p_2 p_3 p_4 p_5 p_6 p_7 p_8 p_9 p_10
  refine (HG _).out.mono ?_
  rintro e w3 ⟨rfl, b3⟩
  have B3 := B2.trans (b3.mono B2.size)
  have X3 := X2.on b3 X2.lt
  have P3 := P2.on b3 P2.lt
  have S3 := S2.up b3
  have T3 := T2.up b3
  have N3 := N2.on b3
  clear B2 X2 P2 S2 T2 N2
  clear b3
  obtain ⟨x_0, x_1, x_2, x_3, x_4, x_5, x_6, x_7, x_8, x_9, x_10, x_11, x_12⟩ := id X3.rb
  obtain ⟨p_0, p_1, p_2, p_3, p_4, p_5, p_6, p_7, p_8, p_9, p_10⟩ := id P3
  go_wp2_with fail
  clear x_0 x_1 x_2 x_3 x_4 x_5 x_6 x_7 x_8 x_9 x_10 x_11 x_12 p_0 p_1 p_2 p_3 p_4 p_5 p_6 p_7 p_8 p_9 p_10
  refine (HM _ N3 S3).out.mono ?_
  rintro e w4 ⟨rfl, b4⟩
  have B4 := B3.trans (b4.mono B3.size)
  have X4 := X3.on b4 X3.lt
  have P4 := P3.on b4 P3.lt
  have S4 := S3.up b4
  have T4 := T3.up b4
  have N4 := N3.on b4
  clear B3 X3 P3 S3 T3 N3
  clear b4
  obtain ⟨x_0, x_1, x_2, x_3, x_4, x_5, x_6, x_7, x_8, x_9, x_10, x_11, x_12⟩ := id X4.rb
  obtain ⟨p_0, p_1, p_2, p_3, p_4, p_5, p_6, p_7, p_8, p_9, p_10⟩ := id P4
  have Xl4 := X4.lt
  have Pl4 := P4.lt
  go_wp2_with fail
  clear x_0 x_1 x_2 x_3 x_4 x_5 x_6 x_7 x_8 x_9 x_10 x_11 x_12 p_0 p_1 p_2 p_3 p_4 p_5 p_6 p_7 p_8 p_9 p_10
  clear Xl4 Pl4
  have B5 := B4.alloc B4.size (.cells (rcs (vo p) A' c') 30)
  have a5 : Below w4.heap.size w4 (w4.alloc (.cells (rcs (vo p) A' c') 30)) := (Below.refl _ _).alloc (Nat.le_refl _) _
  have X5 := X4.old (.cells (rcs (vo p) A' c') 30)
  have P5 := P4.old (.cells (rcs (vo p) A' c') 30)
  have S5 := S4.up a5
  have T5 := T4.up a5
  have N5 := N4.on a5
  clear a5 B4 X4 P4 S4 T4 N4
  generalize (w4.alloc (.cells (rcs (vo p) A' c') 30)) = w5 at *
  refine (HMV _ N5 T5).out.mono ?_
  rintro e w6 ⟨rfl, b6⟩
  have B6 := B5.trans (b6.mono B5.size)
  have X6 := X5.on b6 X5.lt
  have P6 := P5.on b6 P5.lt
  have S6 := S5.up b6
  have T6 := T5.up b6
  have N6 := N5.on b6
  clear B5 X5 P5 S5 T5 N5
  clear b6
  obtain ⟨x_0, x_1, x_2, x_3, x_4, x_5, x_6, x_7, x_8, x_9, x_10, x_11, x_12⟩ := id X6.rb
  obtain ⟨p_0, p_1, p_2, p_3, p_4, p_5, p_6, p_7, p_8, p_9, p_10⟩ := id P6
  go_wp2
  go_ret
  exact ⟨rfl, B6⟩

set_option maxHeartbeats 4000000 in
theorem lmay_go (r : Rd) (p : Sd) (A A' : Option Addr) (c c' : Nat) (n : Int) (w : World) (hN : Nd w) (hs : At.Sl w w.heap.size .i64 A r.xs) (hs' : At.Sl w w.heap.size .i64 A' p.xs) (hf : fw r = true) (hg : decide ((p.xs.length : Int) ≤ 50) = true) (hm : ym r n = true) (hv : ym (vo p) n = true) : Calls Tryd.prog 4 #[rv r A c, sv p A' c', .int .i64 n] w (UpPost w) := by
  have HA : ∀ W, Hid (Calls Tryd.prog 5 #[] W (UpPost W)) := fun W => awake_any W
  have HF : ∀ W, Hid (Calls Tryd.prog 6 #[rv r A c] W (BoolPost W (fw r))) := fun W => few9_any r A c W
  have HG : ∀ W, Hid (Calls Tryd.prog 7 #[av p.q A' p.xs.length c'] W (At.BoolPost W (decide ((p.xs.length : Int) ≤ 50)))) := fun W => At.few_any p.q A' p.xs.length c' W
  have HM : ∀ W, Nd W → At.Sl W W.heap.size .i64 A r.xs → Hid (Calls Tryd.prog 11 #[rv r A c, .int .i64 n] W (BoolPost W (ym r n))) := fun W h g => imay_any r A c n W h g
  rw [hf] at HF
  rw [hg] at HG
  rw [hm] at HM
  have HMV : ∀ W, Nd W → At.Sl W W.heap.size .i64 A' p.xs → Hid (Calls Tryd.prog 11 #[.agg #[.int .i64 2, .int .i64 0, .int .i64 1, .int .i64 0, .int .i64 1, .int .i64 p.u, .int .i64 p.s, .int .i64 p.k, .int .i64 p.h, .int .i64 p.n, .string p.t, .int .i64 p.q, .slice A' p.xs.length c'], .int .i64 n] W (BoolPost W (ym (vo p) n))) := fun W h g => imay_any (vo p) A' c' n W h g
  rw [hv] at HMV
  have l1 : r.xs.length ≤ 50 := fw_le hf
  have l2 : p.xs.length ≤ 50 := by have := of_decide_eq_true hg; omega
  have l4 : (ds r p).xs.length ≤ 50 := ds_le l1 l2
  have HD : ∀ W, At.Sl W W.heap.size .i64 A r.xs → At.Sl W W.heap.size .i64 A' p.xs → Hid (Calls Tryd.prog 8 #[rv r A c, sv p A' c'] W (VotePost W (ds r p) (db r p))) := fun W g g' => does_any r p A A' c c' W g g' (by omega) (by omega)
  have HY : ∀ W A9 c9, Nd W → At.Sl W W.heap.size .i64 A9 (ds r p).xs → Hid (Calls Tryd.prog 11 #[rv (ds r p) A9 c9, .int .i64 n] W (BoolPost W true)) := fun W A9 c9 h g => by
    have := imay_any (ds r p) A9 c9 n W h g
    rw [may_stays hm hv] at this
    exact this
  generalize ds r p = m at *
  generalize db r p = d at *
  have HS0 : ∀ W A1 c1, At.Sl W W.heap.size .i64 A1 m.xs → Hid (Calls Tryd.prog 13 #[rv m A1 c1, rv m A1 c1] W (BoolPost W true)) := fun W A1 c1 g => by
    have := same_any m m A1 A1 c1 c1 W g g (by omega) (by omega)
    rw [sm_self] at this
    exact this
  have HS1 : ∀ W A1 c1, At.Sl W W.heap.size .i64 A1 m.xs → At.Sl W W.heap.size .i64 A r.xs → Hid (Calls Tryd.prog 13 #[rv m A1 c1, rv r A c] W (BoolPost W (sm m r))) := fun W A1 c1 g g' => same_any m r A1 A c1 c W g g' (by omega) (by omega)
  have HS2 : ∀ W A1 c1, At.Sl W W.heap.size .i64 A1 m.xs → At.Sl W W.heap.size .i64 A r.xs → Hid (Calls Tryd.prog 13 #[rv r A c, rv m A1 c1] W (BoolPost W (sm m r))) := fun W A1 c1 g g' => by
    have := same_any r m A A1 c c1 W g' g (by omega) (by omega)
    rw [sm_comm] at this
    exact this
  generalize sm m r = s9 at *
  clear hf hg hm hv l1 l2 l4
  have X0 : Rx ((w.alloc (.cells (rcs r A c) 30)).alloc (.cells (scs p A' c') 32)) (w.heap.size) r A c := by
    have h0 := rx_new w r A c
    exact (h0.old _)
  have P0 : Sb ((w.alloc (.cells (rcs r A c) 30)).alloc (.cells (scs p A' c') 32)) (w.heap.size + 1) p A' c' := by
    have h0 := sb_new (w.alloc (.cells (rcs r A c) 30)) p A' c'
    rw [show (w.alloc (.cells (rcs r A c) 30)).heap.size = w.heap.size + 1 by simp] at h0
    exact h0
  have B0 : Below w.heap.size w ((w.alloc (.cells (rcs r A c) 30)).alloc (.cells (scs p A' c') 32)) := (((Below.refl _ _).alloc (Nat.le_refl _) _).alloc (by first | (simp; done) | (simp; omega)) _)
  have S0 := hs.to B0 B0.size
  have T0 := hs'.to B0 B0.size
  go_enter Tryd.func4, Tryd.ntmps4
  go_wp2_with fail
  generalize ((w.alloc (.cells (rcs r A c) 30)).alloc (.cells (scs p A' c') 32)) = W0 at *
  have N0 := hN.on B0
  refine (HA _).out.mono ?_
  rintro e w1 ⟨rfl, b1⟩
  have B1 := B0.trans (b1.mono B0.size)
  have X1 := X0.on b1 X0.lt
  have P1 := P0.on b1 P0.lt
  have S1 := S0.up b1
  have T1 := T0.up b1
  have N1 := N0.on b1
  clear B0 X0 P0 S0 T0 N0
  clear b1
  obtain ⟨x_0, x_1, x_2, x_3, x_4, x_5, x_6, x_7, x_8, x_9, x_10, x_11, x_12⟩ := id X1.rb
  obtain ⟨p_0, p_1, p_2, p_3, p_4, p_5, p_6, p_7, p_8, p_9, p_10⟩ := id P1
  go_wp2_with fail
  clear x_0 x_1 x_2 x_3 x_4 x_5 x_6 x_7 x_8 x_9 x_10 x_11 x_12 p_0 p_1 p_2 p_3 p_4 p_5 p_6 p_7 p_8 p_9 p_10
  refine (HF _).out.mono ?_
  rintro e w2 ⟨rfl, b2⟩
  have B2 := B1.trans (b2.mono B1.size)
  have X2 := X1.on b2 X1.lt
  have P2 := P1.on b2 P1.lt
  have S2 := S1.up b2
  have T2 := T1.up b2
  have N2 := N1.on b2
  clear B1 X1 P1 S1 T1 N1
  clear b2
  obtain ⟨x_0, x_1, x_2, x_3, x_4, x_5, x_6, x_7, x_8, x_9, x_10, x_11, x_12⟩ := id X2.rb
  obtain ⟨p_0, p_1, p_2, p_3, p_4, p_5, p_6, p_7, p_8, p_9, p_10⟩ := id P2
  go_wp2_with fail
  clear x_0 x_1 x_2 x_3 x_4 x_5 x_6 x_7 x_8 x_9 x_10 x_11 x_12 p_0 p_1 p_2 p_3 p_4 p_5 p_6 p_7 p_8 p_9 p_10
  refine (HG _).out.mono ?_
  rintro e w3 ⟨rfl, b3⟩
  have B3 := B2.trans (b3.mono B2.size)
  have X3 := X2.on b3 X2.lt
  have P3 := P2.on b3 P2.lt
  have S3 := S2.up b3
  have T3 := T2.up b3
  have N3 := N2.on b3
  clear B2 X2 P2 S2 T2 N2
  clear b3
  obtain ⟨x_0, x_1, x_2, x_3, x_4, x_5, x_6, x_7, x_8, x_9, x_10, x_11, x_12⟩ := id X3.rb
  obtain ⟨p_0, p_1, p_2, p_3, p_4, p_5, p_6, p_7, p_8, p_9, p_10⟩ := id P3
  go_wp2_with fail
  clear x_0 x_1 x_2 x_3 x_4 x_5 x_6 x_7 x_8 x_9 x_10 x_11 x_12 p_0 p_1 p_2 p_3 p_4 p_5 p_6 p_7 p_8 p_9 p_10
  refine (HM _ N3 S3).out.mono ?_
  rintro e w4 ⟨rfl, b4⟩
  have B4 := B3.trans (b4.mono B3.size)
  have X4 := X3.on b4 X3.lt
  have P4 := P3.on b4 P3.lt
  have S4 := S3.up b4
  have T4 := T3.up b4
  have N4 := N3.on b4
  clear B3 X3 P3 S3 T3 N3
  clear b4
  obtain ⟨x_0, x_1, x_2, x_3, x_4, x_5, x_6, x_7, x_8, x_9, x_10, x_11, x_12⟩ := id X4.rb
  obtain ⟨p_0, p_1, p_2, p_3, p_4, p_5, p_6, p_7, p_8, p_9, p_10⟩ := id P4
  have Xl4 := X4.lt
  have Pl4 := P4.lt
  go_wp2_with fail
  clear x_0 x_1 x_2 x_3 x_4 x_5 x_6 x_7 x_8 x_9 x_10 x_11 x_12 p_0 p_1 p_2 p_3 p_4 p_5 p_6 p_7 p_8 p_9 p_10
  clear Xl4 Pl4
  have B5 := B4.alloc B4.size (.cells (rcs (vo p) A' c') 30)
  have a5 : Below w4.heap.size w4 (w4.alloc (.cells (rcs (vo p) A' c') 30)) := (Below.refl _ _).alloc (Nat.le_refl _) _
  have X5 := X4.old (.cells (rcs (vo p) A' c') 30)
  have P5 := P4.old (.cells (rcs (vo p) A' c') 30)
  have S5 := S4.up a5
  have T5 := T4.up a5
  have N5 := N4.on a5
  clear a5 B4 X4 P4 S4 T4 N4
  generalize (w4.alloc (.cells (rcs (vo p) A' c') 30)) = w5 at *
  refine (HMV _ N5 T5).out.mono ?_
  rintro e w6 ⟨rfl, b6⟩
  have B6 := B5.trans (b6.mono B5.size)
  have X6 := X5.on b6 X5.lt
  have P6 := P5.on b6 P5.lt
  have S6 := S5.up b6
  have T6 := T5.up b6
  have N6 := N5.on b6
  clear B5 X5 P5 S5 T5 N5
  clear b6
  obtain ⟨x_0, x_1, x_2, x_3, x_4, x_5, x_6, x_7, x_8, x_9, x_10, x_11, x_12⟩ := id X6.rb
  obtain ⟨p_0, p_1, p_2, p_3, p_4, p_5, p_6, p_7, p_8, p_9, p_10⟩ := id P6
  go_wp2_with fail
  clear x_0 x_1 x_2 x_3 x_4 x_5 x_6 x_7 x_8 x_9 x_10 x_11 x_12 p_0 p_1 p_2 p_3 p_4 p_5 p_6 p_7 p_8 p_9 p_10
  refine (HD _ S6 T6).out.mono ?_
  rintro e w7 ⟨A9, c9, rfl, f7, b7⟩
  have B7 := B6.trans (b7.mono B6.size)
  have X7 := X6.on b7 X6.lt
  have P7 := P6.on b7 P6.lt
  have S7 := S6.up b7
  have T7 := T6.up b7
  have N7 := N6.on b7
  clear B6 X6 P6 S6 T6 N6
  clear b7
  clear P7 T7
  go_upto_region 10 with fail
  have B8 := B7.alloc B7.size (.cells (rcs m A9 c9) 30)
  have a8 : Below w7.heap.size w7 (w7.alloc (.cells (rcs m A9 c9) 30)) := (Below.refl _ _).alloc (Nat.le_refl _) _
  have X8 := X7.old (.cells (rcs m A9 c9) 30)
  have Y8 := rx_new w7 m A9 c9
  have S8 := S7.up a8
  have N8 := N7.on a8
  have V8 := f7.on a8
  clear a8 B7 X7 S7 N7 f7
  generalize (w7.alloc (.cells (rcs m A9 c9) 30)) = w8 at *
  generalize w7.heap.size = yb at *
  have SB : Hid (∀ v, Below w8.heap.size w8 v → ((v.cell? ⟨w.heap.size, 0, none⟩ = some (.int .i64 r.st) ∧ v.cell? ⟨w.heap.size, 1, none⟩ = some (.int .i64 r.pn) ∧ v.cell? ⟨w.heap.size, 2, none⟩ = some (.int .i64 r.pb) ∧ v.cell? ⟨w.heap.size, 3, none⟩ = some (.int .i64 r.vn) ∧ v.cell? ⟨w.heap.size, 4, none⟩ = some (.int .i64 r.vb) ∧ v.cell? ⟨w.heap.size, 5, none⟩ = some (.int .i64 r.u) ∧ v.cell? ⟨w.heap.size, 6, none⟩ = some (.int .i64 r.s) ∧ v.cell? ⟨w.heap.size, 7, none⟩ = some (.int .i64 r.k) ∧ v.cell? ⟨w.heap.size, 8, none⟩ = some (.int .i64 r.h) ∧ v.cell? ⟨w.heap.size, 9, none⟩ = some (.int .i64 r.n) ∧ v.cell? ⟨w.heap.size, 10, none⟩ = some (.string r.t) ∧ v.cell? ⟨w.heap.size, 11, none⟩ = some (.int .i64 r.q) ∧ v.cell? ⟨w.heap.size, 12, none⟩ = some (.slice A r.xs.length c)) ∧ (v.cell? ⟨yb, 0, none⟩ = some (.int .i64 m.st) ∧ v.cell? ⟨yb, 1, none⟩ = some (.int .i64 m.pn) ∧ v.cell? ⟨yb, 2, none⟩ = some (.int .i64 m.pb) ∧ v.cell? ⟨yb, 3, none⟩ = some (.int .i64 m.vn) ∧ v.cell? ⟨yb, 4, none⟩ = some (.int .i64 m.vb) ∧ v.cell? ⟨yb, 5, none⟩ = some (.int .i64 m.u) ∧ v.cell? ⟨yb, 6, none⟩ = some (.int .i64 m.s) ∧ v.cell? ⟨yb, 7, none⟩ = some (.int .i64 m.k) ∧ v.cell? ⟨yb, 8, none⟩ = some (.int .i64 m.h) ∧ v.cell? ⟨yb, 9, none⟩ = some (.int .i64 m.n) ∧ v.cell? ⟨yb, 10, none⟩ = some (.string m.t) ∧ v.cell? ⟨yb, 11, none⟩ = some (.int .i64 m.q) ∧ v.cell? ⟨yb, 12, none⟩ = some (.slice A9 m.xs.length c9)))) := fun v g => ⟨(X8.on g X8.lt).rb, (Y8.on g Y8.lt).rb⟩
  have BD : Hid (Below w8.heap.size w8 w8.drew) := (Below.refl _ _).drew
  have C1 : ∀ W, Below w8.heap.size w8 W → Hid (Calls Tryd.prog 11 #[rv m A9 c9, .int .i64 n] W (BoolPost W true)) := fun W g => HY W A9 c9 (N8.on g) (V8.on g).sl
  have C2 : ∀ W, Below w8.heap.size w8 W → Hid (Calls Tryd.prog 13 #[rv m A9 c9, rv m A9 c9] W (BoolPost W true)) := fun W g => HS0 W A9 c9 (V8.on g).sl
  have C3 : ∀ W, Below w8.heap.size w8 W → Hid (Calls Tryd.prog 13 #[rv m A9 c9, rv r A c] W (BoolPost W s9)) := fun W g => HS1 W A9 c9 (V8.on g).sl (S8.up g)
  have C4 : ∀ W, Below w8.heap.size w8 W → Hid (Calls Tryd.prog 13 #[rv r A c, rv m A9 c9] W (BoolPost W s9)) := fun W g => HS2 W A9 c9 (V8.on g).sl (S8.up g)
  have HB := Lib.hid B8
  clear HM HMV HS0 HS1 HS2 HD HY HA HF HG B8 X8 Y8 N8 S8 V8
  refine wp_region_held_drew (S := fun v => Below w8.heap.size w8 v) (by kernel_rfl) BD.out (fun hH => ?_)
  refine wpAnyH_take (i := 0) (v := ?v26) rfl (by kernel_rfl) (by kernel_rfl) (by kernel_rfl) (fun _ _ _ h => h) (Or.inl ⟨by rfl, ?hy26⟩) hH ?rest26
  case hy26 => (intro w hSw; (try dsimp only at hSw); obtain ⟨⟨p0, p1, p2, p3, p4, p5, p6, p7, p8, p9, p10, p11, p12⟩, ⟨q0, q1, q2, q3, q4, q5, q6, q7, q8, q9, q10, q11, q12⟩⟩ := SB.out w hSw; go_simp; try with_reducible rfl)
  try simp only [Act.put, List.setIfInBounds_toArray, List.set_cons_zero, List.set_cons_succ, List.getElem_toArray, List.getElem_cons_zero]
  refine wpAnyH_take (i := 1) (v := ?v27) rfl (by kernel_rfl) (by kernel_rfl) (by kernel_rfl) (fun _ _ _ h => h) (Or.inl ⟨by rfl, ?hy27⟩) hH ?rest27
  case hy27 => (intro w hSw; (try dsimp only at hSw); go_simp; try with_reducible rfl)
  try simp only [Act.put, List.setIfInBounds_toArray, List.set_cons_zero, List.set_cons_succ, List.getElem_toArray, List.getElem_cons_zero, List.getElem_cons_succ]
  refine wpAnyH_ready (rs := [2]) (by kernel_rfl) (by simp) ?_
  refine AllReadyH.cons rfl (fun K hK => ?_) AllReadyH.nil
  go_simp
  go_at_call 11
  with_reducible refine (C1 _ hH).out.mono ?_
  rintro e wq28 ⟨rfl, bq28⟩
  go_wp2_with fail
  refine hK.out _ _ (hH.trans (bq28.mono hH.size)) (fun hH2 => ?_)
  clear hK K hH
  have hH := hH2
  clear hH2
  try simp only [Act.put, List.setIfInBounds_toArray, List.set_cons_zero, List.set_cons_succ, List.getElem_toArray, List.getElem_cons_zero, List.getElem_cons_succ]
  refine wpAnyH_take (i := 3) (v := ?v29) rfl (by kernel_rfl) (by kernel_rfl) (by kernel_rfl) (fun _ _ _ h => h) (Or.inl ⟨by rfl, ?hy29⟩) hH ?rest29
  case hy29 => (intro w hSw; (try dsimp only at hSw); go_simp; try with_reducible rfl)
  try simp only [Act.put, List.setIfInBounds_toArray, List.set_cons_zero, List.set_cons_succ, List.getElem_toArray, List.getElem_cons_zero, List.getElem_cons_succ]
  refine wpAnyH_take (i := 4) (v := ?v30) rfl (by kernel_rfl) (by kernel_rfl) (by kernel_rfl) (fun _ _ _ h => h) (Or.inl ⟨by rfl, ?hy30⟩) hH ?rest30
  case hy30 => (intro w hSw; (try dsimp only at hSw); obtain ⟨⟨p0, p1, p2, p3, p4, p5, p6, p7, p8, p9, p10, p11, p12⟩, ⟨q0, q1, q2, q3, q4, q5, q6, q7, q8, q9, q10, q11, q12⟩⟩ := SB.out w hSw; go_simp; try with_reducible rfl)
  try simp only [Act.put, List.setIfInBounds_toArray, List.set_cons_zero, List.set_cons_succ, List.getElem_toArray, List.getElem_cons_zero, List.getElem_cons_succ]
  refine wpAnyH_take (i := 5) (v := ?v31) rfl (by kernel_rfl) (by kernel_rfl) (by kernel_rfl) (fun _ _ _ h => h) (Or.inl ⟨by rfl, ?hy31⟩) hH ?rest31
  case hy31 => (intro w hSw; (try dsimp only at hSw); obtain ⟨⟨p0, p1, p2, p3, p4, p5, p6, p7, p8, p9, p10, p11, p12⟩, ⟨q0, q1, q2, q3, q4, q5, q6, q7, q8, q9, q10, q11, q12⟩⟩ := SB.out w hSw; go_simp; try with_reducible rfl)
  try simp only [Act.put, List.setIfInBounds_toArray, List.set_cons_zero, List.set_cons_succ, List.getElem_toArray, List.getElem_cons_zero, List.getElem_cons_succ]
  refine wpAnyH_ready (rs := [6]) (by kernel_rfl) (by simp) ?_
  refine AllReadyH.cons rfl (fun K hK => ?_) AllReadyH.nil
  go_simp
  go_at_call 13
  with_reducible refine (C2 _ hH).out.mono ?_
  rintro e wq32 ⟨rfl, bq32⟩
  go_wp2_with fail
  refine hK.out _ _ (hH.trans (bq32.mono hH.size)) (fun hH2 => ?_)
  clear hK K hH
  have hH := hH2
  clear hH2
  try simp only [Act.put, List.setIfInBounds_toArray, List.set_cons_zero, List.set_cons_succ, List.getElem_toArray, List.getElem_cons_zero, List.getElem_cons_succ]
  refine wpAnyH_take (i := 7) (v := ?v33) rfl (by kernel_rfl) (by kernel_rfl) (by kernel_rfl) (fun _ _ _ h => h) (Or.inl ⟨by rfl, ?hy33⟩) hH ?rest33
  case hy33 => (intro w hSw; (try dsimp only at hSw); go_simp; try with_reducible rfl)
  try simp only [Act.put, List.setIfInBounds_toArray, List.set_cons_zero, List.set_cons_succ, List.getElem_toArray, List.getElem_cons_zero, List.getElem_cons_succ]
  refine wpAnyH_take (i := 8) (v := ?v34) rfl (by kernel_rfl) (by kernel_rfl) (by kernel_rfl) (fun _ _ _ h => h) (Or.inl ⟨by rfl, ?hy34⟩) hH ?rest34
  case hy34 => (intro w hSw; (try dsimp only at hSw); go_simp; try with_reducible rfl)
  try simp only [Act.put, List.setIfInBounds_toArray, List.set_cons_zero, List.set_cons_succ, List.getElem_toArray, List.getElem_cons_zero, List.getElem_cons_succ]
  refine wpAnyH_take (i := 9) (v := ?v35) rfl (by kernel_rfl) (by kernel_rfl) (by kernel_rfl) (fun _ _ _ h => h) (Or.inl ⟨by rfl, ?hy35⟩) hH ?rest35
  case hy35 => (intro w hSw; (try dsimp only at hSw); obtain ⟨⟨p0, p1, p2, p3, p4, p5, p6, p7, p8, p9, p10, p11, p12⟩, ⟨q0, q1, q2, q3, q4, q5, q6, q7, q8, q9, q10, q11, q12⟩⟩ := SB.out w hSw; go_simp; try with_reducible rfl)
  try simp only [Act.put, List.setIfInBounds_toArray, List.set_cons_zero, List.set_cons_succ, List.getElem_toArray, List.getElem_cons_zero, List.getElem_cons_succ]
  refine wpAnyH_take (i := 10) (v := ?v36) rfl (by kernel_rfl) (by kernel_rfl) (by kernel_rfl) (fun _ _ _ h => h) (Or.inl ⟨by rfl, ?hy36⟩) hH ?rest36
  case hy36 => (intro w hSw; (try dsimp only at hSw); obtain ⟨⟨p0, p1, p2, p3, p4, p5, p6, p7, p8, p9, p10, p11, p12⟩, ⟨q0, q1, q2, q3, q4, q5, q6, q7, q8, q9, q10, q11, q12⟩⟩ := SB.out w hSw; go_simp; try with_reducible rfl)
  try simp only [Act.put, List.setIfInBounds_toArray, List.set_cons_zero, List.set_cons_succ, List.getElem_toArray, List.getElem_cons_zero, List.getElem_cons_succ]
  refine wpAnyH_take (i := 12) (v := ?v37) rfl (by kernel_rfl) (by kernel_rfl) (by kernel_rfl) (fun _ _ _ h => h) (Or.inl ⟨by rfl, ?hy37⟩) hH ?rest37
  case hy37 => (intro w hSw; (try dsimp only at hSw); obtain ⟨⟨p0, p1, p2, p3, p4, p5, p6, p7, p8, p9, p10, p11, p12⟩, ⟨q0, q1, q2, q3, q4, q5, q6, q7, q8, q9, q10, q11, q12⟩⟩ := SB.out w hSw; go_simp; try with_reducible rfl)
  try simp only [Act.put, List.setIfInBounds_toArray, List.set_cons_zero, List.set_cons_succ, List.getElem_toArray, List.getElem_cons_zero, List.getElem_cons_succ]
  refine wpAnyH_take (i := 13) (v := ?v38) rfl (by kernel_rfl) (by kernel_rfl) (by kernel_rfl) (fun _ _ _ h => h) (Or.inl ⟨by rfl, ?hy38⟩) hH ?rest38
  case hy38 => (intro w hSw; (try dsimp only at hSw); obtain ⟨⟨p0, p1, p2, p3, p4, p5, p6, p7, p8, p9, p10, p11, p12⟩, ⟨q0, q1, q2, q3, q4, q5, q6, q7, q8, q9, q10, q11, q12⟩⟩ := SB.out w hSw; go_simp; try with_reducible rfl)
  try simp only [Act.put, List.setIfInBounds_toArray, List.set_cons_zero, List.set_cons_succ, List.getElem_toArray, List.getElem_cons_zero, List.getElem_cons_succ]
  refine wpAnyH_ready (rs := [11]) (by kernel_rfl) (by simp) ?_
  refine AllReadyH.cons rfl (fun K hK => ?_) AllReadyH.nil
  go_simp
  go_at_call 13
  with_reducible refine (C3 _ hH).out.mono ?_
  rintro e wq39 ⟨rfl, bq39⟩
  go_wp2_with fail
  refine hK.out _ _ (hH.trans (bq39.mono hH.size)) (fun hH2 => ?_)
  clear hK K hH
  have hH := hH2
  clear hH2
  try simp only [Act.put, List.setIfInBounds_toArray, List.set_cons_zero, List.set_cons_succ, List.getElem_toArray, List.getElem_cons_zero, List.getElem_cons_succ]
  refine wpAnyH_ready (rs := [14]) (by kernel_rfl) (by simp) ?_
  refine AllReadyH.cons rfl (fun K hK => ?_) AllReadyH.nil
  go_simp
  go_at_call 13
  with_reducible refine (C4 _ hH).out.mono ?_
  rintro e wq40 ⟨rfl, bq40⟩
  go_wp2_with fail
  refine hK.out _ _ (hH.trans (bq40.mono hH.size)) (fun hH2 => ?_)
  clear hK K hH
  have hH := hH2
  clear hH2
  try simp only [Act.put, List.setIfInBounds_toArray, List.set_cons_zero, List.set_cons_succ, List.getElem_toArray, List.getElem_cons_zero, List.getElem_cons_succ]
  refine wpAnyH_take (i := 15) (v := ?v41) rfl (by kernel_rfl) (by kernel_rfl) (by kernel_rfl) (fun _ _ _ h => h) (Or.inl ⟨by rfl, ?hy41⟩) hH ?rest41
  case hy41 => (intro w hSw; (try dsimp only at hSw); go_simp; try with_reducible rfl)
  try simp only [Act.put, List.setIfInBounds_toArray, List.set_cons_zero, List.set_cons_succ, List.getElem_toArray, List.getElem_cons_zero, List.getElem_cons_succ]
  refine wpAnyH_take (i := 16) (v := ?v42) rfl (by kernel_rfl) (by kernel_rfl) (by kernel_rfl) (fun _ _ _ h => h) (Or.inl ⟨by rfl, ?hy42⟩) hH ?rest42
  case hy42 => (intro w hSw; (try dsimp only at hSw); go_simp; try with_reducible rfl)
  try simp only [Act.put, List.setIfInBounds_toArray, List.set_cons_zero, List.set_cons_succ, List.getElem_toArray, List.getElem_cons_zero, List.getElem_cons_succ]
  refine wpAnyH_take (i := 17) (v := ?v43) rfl (by kernel_rfl) (by kernel_rfl) (by kernel_rfl) (fun _ _ _ h => h) (Or.inl ⟨by rfl, ?hy43⟩) hH ?rest43
  case hy43 => (intro w hSw; (try dsimp only at hSw); go_simp; try with_reducible rfl)
  try simp only [Act.put, List.setIfInBounds_toArray, List.set_cons_zero, List.set_cons_succ, List.getElem_toArray, List.getElem_cons_zero, List.getElem_cons_succ]
  refine wpAnyH_done (by kernel_rfl) ?_ _
  go_wp2
  go_ret
  exact ⟨rfl, HB.out.trans (hH.mono HB.out.size)⟩

theorem lmay_any (r : Rd) (p : Sd) (A A' : Option Addr) (c c' : Nat) (n : Int) (w : World) (hN : Nd w) (hs : At.Sl w w.heap.size .i64 A r.xs) (hs' : At.Sl w w.heap.size .i64 A' p.xs) : Calls Tryd.prog 4 #[rv r A c, sv p A' c', .int .i64 n] w (UpPost w) := by
  rcases hf : fw r with _ | _
  · exact lmay_a r p A A' c c' n w hN hs hs' hf
  rcases hg : decide ((p.xs.length : Int) ≤ 50) with _ | _
  · exact lmay_b r p A A' c c' n w hN hs hs' hf hg
  rcases hm : ym r n with _ | _
  · exact lmay_c r p A A' c c' n w hN hs hs' hf hg hm
  rcases hv : ym (vo p) n with _ | _
  · exact lmay_d r p A A' c c' n w hN hs hs' hf hg hm hv
  · exact lmay_go r p A A' c c' n w hN hs hs' hf hg hm hv

end Go.Proofs.YtdeaaeejkpghaaaDoor.In
