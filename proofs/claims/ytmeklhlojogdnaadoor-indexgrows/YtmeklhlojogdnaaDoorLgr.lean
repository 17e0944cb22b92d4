/-
  More that is known makes nothing less; what does not interfere makes nothing more: IndexGrows answers true whatever the list, the one more, the command, the instance and the number; they read as they did. Conditions: none beyond the card's own (the table of what kinds need reads as its initialiser lays it).
-/
import Derived.Test.YtmeklhlojogdnaaDoorAwk
import Derived.Test.YtmeklhlojogdnaaDoorOfr
import Derived.Test.YtmeklhlojogdnaaDoorAtRwi
import Derived.Test.YtmeklhlojogdnaaDoorAtSa
import Derived.Test.YtmeklhlojogdnaaDoorRpt
import Derived.Test.YtmeklhlojogdnaaDoorApp
import Derived.Deep.RegionLaw
import Derived.Deep.DeepCutAuto
import Derived.Deep.AppendLies
import Derived.Test.YtmeklhlojogdnaaDoorCards
import Derived.Test.YtmeklhlojogdnaaDoorTie
import Derived.SevenTiedAt
namespace Go.Proofs.YtmeklhlojogdnaaDoor.indexGrows
open Go.ChangeShapes Go.WideShapes Go.ChangeAt Go.RowKit Go.Joins
set_option linter.unusedVariables false

attribute [local go_sem ↓ high] eq26 guard26 neq26 guard26n

theorem within_yes (N : Nat) (h7 : N ≤ 7) (W : World) (g1 g2 : Nat) (s s' : Int) (ds ds' : List Int) (hl : ds.length = N) (hl' : ds'.length = N) (h1 : At.Rx W g1 ds) (h2 : At.Rx W g2 ds') (hs : s ≤ s') (hd : ∀ j, ds.getD j 0 ≤ ds'.getD j 0) :
    Calls Tryd.prog 20 #[.agg #[.int .i64 s, .slice (some ⟨g1, 0, none⟩) N N], .agg #[.int .i64 s', .slice (some ⟨g2, 0, none⟩) N N]] W (BoolPost W true) := by
  have := At.within_any s s' (some ⟨g1, 0, none⟩) (some ⟨g2, 0, none⟩) ds.length ds'.length ds ds' W h1.sl h2.sl (by omega) (by omega)
  rw [At.wi_iff.2 ⟨hs, hd⟩, hl, hl'] at this
  exact this
theorem same_yes3 (N : Nat) (h7 : N ≤ 7) (W : World) (g1 g2 : Nat) (s : Int) (ds : List Int) (hl : ds.length = N) (h1 : At.Rx W g1 ds) (h2 : At.Rx W g2 ds) :
    Calls Tryd.prog 21 #[.agg #[.int .i64 s, .slice (some ⟨g1, 0, none⟩) N N], .agg #[.int .i64 s, .slice (some ⟨g2, 0, none⟩) N N]] W (BoolPost W true) := by
  subst hl
  have := At.same_any s s (some ⟨g1, 0, none⟩) (some ⟨g2, 0, none⟩) ds.length ds.length ds ds W h1.sl h2.sl (by omega) (by omega)
  rw [At.sa_iff.2 ⟨rfl, fun _ => rfl⟩] at this
  exact this
theorem rx_up {w w' : World} {g : Nat} {ys : List Int} (h : At.Rx w g ys) (hb : Below w.heap.size w w') : At.Rx w' g ys := (hb.block g h.lt).trans h

theorem early1 (A : Option Addr) (cp : Nat) (l : List Kn) (x1 x2 xu xs xk xh xn xq : Int) (xt : ByteArray) (cu cs ck ch cn : Int) (ct : ByteArray) (j1 j2 : Int) (n : Int) (w : World) (hN : Nd w) (hl : (60 : Int) < (l.length : Int)) : Calls Tryd.prog 6 #[.slice A l.length cp, (.agg #[.int .i64 x1, .int .i64 x2, .int .i64 xu, .int .i64 xs, .int .i64 xk, .int .i64 xh, .int .i64 xn, .string xt, .int .i64 xq]), (cv cu cs ck ch cn ct), (.agg #[.int .i64 j1, .int .i64 j2]), .int .i64 n] w (UpPost w) := by
  have B0 : Below w.heap.size w (((w.alloc (.cells #[.int .i64 x1, .int .i64 x2, .int .i64 xu, .int .i64 xs, .int .i64 xk, .int .i64 xh, .int .i64 xn, .string xt, .int .i64 xq] 29)).alloc (.cells #[.int .i64 cu, .int .i64 cs, .int .i64 ck, .int .i64 ch, .int .i64 cn, .string ct] 24)).alloc (.cells #[.int .i64 j1, .int .i64 j2] 26)) := ((((Below.refl _ _).alloc (Nat.le_refl _) _).alloc (by first | (simp; done) | (simp; omega)) _).alloc (by first | (simp; done) | (simp; omega)) _)
  have Z0 : (((w.alloc (.cells #[.int .i64 x1, .int .i64 x2, .int .i64 xu, .int .i64 xs, .int .i64 xk, .int .i64 xh, .int .i64 xn, .string xt, .int .i64 xq] 29)).alloc (.cells #[.int .i64 cu, .int .i64 cs, .int .i64 ck, .int .i64 ch, .int .i64 cn, .string ct] 24)).alloc (.cells #[.int .i64 j1, .int .i64 j2] 26)).heap.size = w.heap.size + 1 + 1 + 1 := by simp
  have Dx0 : Nb (((w.alloc (.cells #[.int .i64 x1, .int .i64 x2, .int .i64 xu, .int .i64 xs, .int .i64 xk, .int .i64 xh, .int .i64 xn, .string xt, .int .i64 xq] 29)).alloc (.cells #[.int .i64 cu, .int .i64 cs, .int .i64 ck, .int .i64 ch, .int .i64 cn, .string ct] 24)).alloc (.cells #[.int .i64 j1, .int .i64 j2] 26)) (w.heap.size) ⟨(x1, x2), ⟨xu, xs, xk, xh, xn, xt⟩, xq⟩ := by
    have h1 := nb_new w ⟨(x1, x2), ⟨xu, xs, xk, xh, xn, xt⟩, xq⟩
    exact ((h1.on ((Below.refl _ _).alloc (Nat.le_refl _) _) (by first | (simp; done) | (simp; omega))).on ((Below.refl _ _).alloc (Nat.le_refl _) _) (by first | (simp; done) | (simp; omega)))
  have Dc0 : Cb (((w.alloc (.cells #[.int .i64 x1, .int .i64 x2, .int .i64 xu, .int .i64 xs, .int .i64 xk, .int .i64 xh, .int .i64 xn, .string xt, .int .i64 xq] 29)).alloc (.cells #[.int .i64 cu, .int .i64 cs, .int .i64 ck, .int .i64 ch, .int .i64 cn, .string ct] 24)).alloc (.cells #[.int .i64 j1, .int .i64 j2] 26)) (w.heap.size + 1) cu cs ck ch cn ct := by
    have h1 := cb_new (w.alloc (.cells #[.int .i64 x1, .int .i64 x2, .int .i64 xu, .int .i64 xs, .int .i64 xk, .int .i64 xh, .int .i64 xn, .string xt, .int .i64 xq] 29)) cu cs ck ch cn ct
    rw [show (w.alloc (.cells #[.int .i64 x1, .int .i64 x2, .int .i64 xu, .int .i64 xs, .int .i64 xk, .int .i64 xh, .int .i64 xn, .string xt, .int .i64 xq] 29)).heap.size = w.heap.size + 1 by simp] at h1
    exact (h1.on ((Below.refl _ _).alloc (Nat.le_refl _) _) (by first | (simp; done) | (simp; omega)))
  have Dj0 : At.Ib (((w.alloc (.cells #[.int .i64 x1, .int .i64 x2, .int .i64 xu, .int .i64 xs, .int .i64 xk, .int .i64 xh, .int .i64 xn, .string xt, .int .i64 xq] 29)).alloc (.cells #[.int .i64 cu, .int .i64 cs, .int .i64 ck, .int .i64 ch, .int .i64 cn, .string ct] 24)).alloc (.cells #[.int .i64 j1, .int .i64 j2] 26)) (w.heap.size + 1 + 1) j1 j2 := by
    have h1 := At.ib_new ((w.alloc (.cells #[.int .i64 x1, .int .i64 x2, .int .i64 xu, .int .i64 xs, .int .i64 xk, .int .i64 xh, .int .i64 xn, .string xt, .int .i64 xq] 29)).alloc (.cells #[.int .i64 cu, .int .i64 cs, .int .i64 ck, .int .i64 ch, .int .i64 cn, .string ct] 24)) j1 j2
    rw [show ((w.alloc (.cells #[.int .i64 x1, .int .i64 x2, .int .i64 xu, .int .i64 xs, .int .i64 xk, .int .i64 xh, .int .i64 xn, .string xt, .int .i64 xq] 29)).alloc (.cells #[.int .i64 cu, .int .i64 cs, .int .i64 ck, .int .i64 ch, .int .i64 cn, .string ct] 24)).heap.size = w.heap.size + 1 + 1 by simp] at h1
    exact h1
  have N0 := hN.on B0
  go_enter Tryd.func6, Tryd.ntmps6
  go_wp2_with fail
  generalize (((w.alloc (.cells #[.int .i64 x1, .int .i64 x2, .int .i64 xu, .int .i64 xs, .int .i64 xk, .int .i64 xh, .int .i64 xn, .string xt, .int .i64 xq] 29)).alloc (.cells #[.int .i64 cu, .int .i64 cs, .int .i64 ck, .int .i64 ch, .int .i64 cn, .string ct] 24)).alloc (.cells #[.int .i64 j1, .int .i64 j2] 26)) = W0 at *
  refine (awake_any W0 N0).mono ?_
  rintro e W1 ⟨rfl, B1⟩
  have z1 := B1.size
  have N1 := N0.on B1
  have Dx1 := Dx0.on B1 (by omega)
  have Dc1 := Dc0.on B1 (by omega)
  have Dj1 := Dj0.on B1 (by omega)
  have BE := B0.trans (B1.mono (by omega))
  clear Dx0 Dc0 Dj0
  clear B1 B0 N0
  obtain ⟨gx0, gx1, gx2, gx3, gx4, gx5, gx6, gx7, gx8⟩ := id Dx1
  go_wp2
  go_ret
  exact ⟨rfl, BE⟩

theorem early2 (A : Option Addr) (cp : Nat) (l : List Kn) (x1 x2 xu xs xk xh xn xq : Int) (xt : ByteArray) (cu cs ck ch cn : Int) (ct : ByteArray) (j1 j2 : Int) (n : Int) (w : World) (hN : Nd w) (hl : ¬ (60 : Int) < (l.length : Int)) (ha : 1099511627776 < xq) : Calls Tryd.prog 6 #[.slice A l.length cp, (.agg #[.int .i64 x1, .int .i64 x2, .int .i64 xu, .int .i64 xs, .int .i64 xk, .int .i64 xh, .int .i64 xn, .string xt, .int .i64 xq]), (cv cu cs ck ch cn ct), (.agg #[.int .i64 j1, .int .i64 j2]), .int .i64 n] w (UpPost w) := by
  have B0 : Below w.heap.size w (((w.alloc (.cells #[.int .i64 x1, .int .i64 x2, .int .i64 xu, .int .i64 xs, .int .i64 xk, .int .i64 xh, .int .i64 xn, .string xt, .int .i64 xq] 29)).alloc (.cells #[.int .i64 cu, .int .i64 cs, .int .i64 ck, .int .i64 ch, .int .i64 cn, .string ct] 24)).alloc (.cells #[.int .i64 j1, .int .i64 j2] 26)) := ((((Below.refl _ _).alloc (Nat.le_refl _) _).alloc (by first | (simp; done) | (simp; omega)) _).alloc (by first | (simp; done) | (simp; omega)) _)
  have Z0 : (((w.alloc (.cells #[.int .i64 x1, .int .i64 x2, .int .i64 xu, .int .i64 xs, .int .i64 xk, .int .i64 xh, .int .i64 xn, .string xt, .int .i64 xq] 29)).alloc (.cells #[.int .i64 cu, .int .i64 cs, .int .i64 ck, .int .i64 ch, .int .i64 cn, .string ct] 24)).alloc (.cells #[.int .i64 j1, .int .i64 j2] 26)).heap.size = w.heap.size + 1 + 1 + 1 := by simp
  have Dx0 : Nb (((w.alloc (.cells #[.int .i64 x1, .int .i64 x2, .int .i64 xu, .int .i64 xs, .int .i64 xk, .int .i64 xh, .int .i64 xn, .string xt, .int .i64 xq] 29)).alloc (.cells #[.int .i64 cu, .int .i64 cs, .int .i64 ck, .int .i64 ch, .int .i64 cn, .string ct] 24)).alloc (.cells #[.int .i64 j1, .int .i64 j2] 26)) (w.heap.size) ⟨(x1, x2), ⟨xu, xs, xk, xh, xn, xt⟩, xq⟩ := by
    have h1 := nb_new w ⟨(x1, x2), ⟨xu, xs, xk, xh, xn, xt⟩, xq⟩
    exact ((h1.on ((Below.refl _ _).alloc (Nat.le_refl _) _) (by first | (simp; done) | (simp; omega))).on ((Below.refl _ _).alloc (Nat.le_refl _) _) (by first | (simp; done) | (simp; omega)))
  have Dc0 : Cb (((w.alloc (.cells #[.int .i64 x1, .int .i64 x2, .int .i64 xu, .int .i64 xs, .int .i64 xk, .int .i64 xh, .int .i64 xn, .string xt, .int .i64 xq] 29)).alloc (.cells #[.int .i64 cu, .int .i64 cs, .int .i64 ck, .int .i64 ch, .int .i64 cn, .string ct] 24)).alloc (.cells #[.int .i64 j1, .int .i64 j2] 26)) (w.heap.size + 1) cu cs ck ch cn ct := by
    have h1 := cb_new (w.alloc (.cells #[.int .i64 x1, .int .i64 x2, .int .i64 xu, .int .i64 xs, .int .i64 xk, .int .i64 xh, .int .i64 xn, .string xt, .int .i64 xq] 29)) cu cs ck ch cn ct
    rw [show (w.alloc (.cells #[.int .i64 x1, .int .i64 x2, .int .i64 xu, .int .i64 xs, .int .i64 xk, .int .i64 xh, .int .i64 xn, .string xt, .int .i64 xq] 29)).heap.size = w.heap.size + 1 by simp] at h1
    exact (h1.on ((Below.refl _ _).alloc (Nat.le_refl _) _) (by first | (simp; done) | (simp; omega)))
  have Dj0 : At.Ib (((w.alloc (.cells #[.int .i64 x1, .int .i64 x2, .int .i64 xu, .int .i64 xs, .int .i64 xk, .int .i64 xh, .int .i64 xn, .string xt, .int .i64 xq] 29)).alloc (.cells #[.int .i64 cu, .int .i64 cs, .int .i64 ck, .int .i64 ch, .int .i64 cn, .string ct] 24)).alloc (.cells #[.int .i64 j1, .int .i64 j2] 26)) (w.heap.size + 1 + 1) j1 j2 := by
    have h1 := At.ib_new ((w.alloc (.cells #[.int .i64 x1, .int .i64 x2, .int .i64 xu, .int .i64 xs, .int .i64 xk, .int .i64 xh, .int .i64 xn, .string xt, .int .i64 xq] 29)).alloc (.cells #[.int .i64 cu, .int .i64 cs, .int .i64 ck, .int .i64 ch, .int .i64 cn, .string ct] 24)) j1 j2
    rw [show ((w.alloc (.cells #[.int .i64 x1, .int .i64 x2, .int .i64 xu, .int .i64 xs, .int .i64 xk, .int .i64 xh, .int .i64 xn, .string xt, .int .i64 xq] 29)).alloc (.cells #[.int .i64 cu, .int .i64 cs, .int .i64 ck, .int .i64 ch, .int .i64 cn, .string ct] 24)).heap.size = w.heap.size + 1 + 1 by simp] at h1
    exact h1
  have N0 := hN.on B0
  go_enter Tryd.func6, Tryd.ntmps6
  go_wp2_with fail
  generalize (((w.alloc (.cells #[.int .i64 x1, .int .i64 x2, .int .i64 xu, .int .i64 xs, .int .i64 xk, .int .i64 xh, .int .i64 xn, .string xt, .int .i64 xq] 29)).alloc (.cells #[.int .i64 cu, .int .i64 cs, .int .i64 ck, .int .i64 ch, .int .i64 cn, .string ct] 24)).alloc (.cells #[.int .i64 j1, .int .i64 j2] 26)) = W0 at *
  refine (awake_any W0 N0).mono ?_
  rintro e W1 ⟨rfl, B1⟩
  have z1 := B1.size
  have N1 := N0.on B1
  have Dx1 := Dx0.on B1 (by omega)
  have Dc1 := Dc0.on B1 (by omega)
  have Dj1 := Dj0.on B1 (by omega)
  have BE := B0.trans (B1.mono (by omega))
  clear Dx0 Dc0 Dj0
  clear B1 B0 N0
  obtain ⟨gx0, gx1, gx2, gx3, gx4, gx5, gx6, gx7, gx8⟩ := id Dx1
  go_wp2
  go_ret
  exact ⟨rfl, BE⟩

set_option maxHeartbeats 8000000 in
theorem rest (N : Nat) (A : Option Addr) (cp : Nat) (l : List Kn) (x1 x2 xu xs xk xh xn xq : Int) (xt : ByteArray) (cu cs ck ch cn : Int) (ct : ByteArray) (j1 j2 : Int) (n : Int) (w : World) (hN : Nd w) (hl : ¬ (60 : Int) < (l.length : Int)) (ha : ¬ 1099511627776 < xq) (hn : am n = (N : Int)) (h7 : N ≤ 7) (hs : Ns w w.heap.size A l) (hlow : ∀ k ∈ l, -9223372036854775808 ≤ k.q) (hqa : -9223372036854775808 ≤ xq) : Calls Tryd.prog 6 #[.slice A l.length cp, (.agg #[.int .i64 x1, .int .i64 x2, .int .i64 xu, .int .i64 xs, .int .i64 xk, .int .i64 xh, .int .i64 xn, .string xt, .int .i64 xq]), (cv cu cs ck ch cn ct), (.agg #[.int .i64 j1, .int .i64 j2]), .int .i64 n] w (UpPost w) := by
  have B0 : Below w.heap.size w (((w.alloc (.cells #[.int .i64 x1, .int .i64 x2, .int .i64 xu, .int .i64 xs, .int .i64 xk, .int .i64 xh, .int .i64 xn, .string xt, .int .i64 xq] 29)).alloc (.cells #[.int .i64 cu, .int .i64 cs, .int .i64 ck, .int .i64 ch, .int .i64 cn, .string ct] 24)).alloc (.cells #[.int .i64 j1, .int .i64 j2] 26)) := ((((Below.refl _ _).alloc (Nat.le_refl _) _).alloc (by first | (simp; done) | (simp; omega)) _).alloc (by first | (simp; done) | (simp; omega)) _)
  have Z0 : (((w.alloc (.cells #[.int .i64 x1, .int .i64 x2, .int .i64 xu, .int .i64 xs, .int .i64 xk, .int .i64 xh, .int .i64 xn, .string xt, .int .i64 xq] 29)).alloc (.cells #[.int .i64 cu, .int .i64 cs, .int .i64 ck, .int .i64 ch, .int .i64 cn, .string ct] 24)).alloc (.cells #[.int .i64 j1, .int .i64 j2] 26)).heap.size = w.heap.size + 1 + 1 + 1 := by simp
  have Dx0 : Nb (((w.alloc (.cells #[.int .i64 x1, .int .i64 x2, .int .i64 xu, .int .i64 xs, .int .i64 xk, .int .i64 xh, .int .i64 xn, .string xt, .int .i64 xq] 29)).alloc (.cells #[.int .i64 cu, .int .i64 cs, .int .i64 ck, .int .i64 ch, .int .i64 cn, .string ct] 24)).alloc (.cells #[.int .i64 j1, .int .i64 j2] 26)) (w.heap.size) ⟨(x1, x2), ⟨xu, xs, xk, xh, xn, xt⟩, xq⟩ := by
    have h1 := nb_new w ⟨(x1, x2), ⟨xu, xs, xk, xh, xn, xt⟩, xq⟩
    exact ((h1.on ((Below.refl _ _).alloc (Nat.le_refl _) _) (by first | (simp; done) | (simp; omega))).on ((Below.refl _ _).alloc (Nat.le_refl _) _) (by first | (simp; done) | (simp; omega)))
  have Dc0 : Cb (((w.alloc (.cells #[.int .i64 x1, .int .i64 x2, .int .i64 xu, .int .i64 xs, .int .i64 xk, .int .i64 xh, .int .i64 xn, .string xt, .int .i64 xq] 29)).alloc (.cells #[.int .i64 cu, .int .i64 cs, .int .i64 ck, .int .i64 ch, .int .i64 cn, .string ct] 24)).alloc (.cells #[.int .i64 j1, .int .i64 j2] 26)) (w.heap.size + 1) cu cs ck ch cn ct := by
    have h1 := cb_new (w.alloc (.cells #[.int .i64 x1, .int .i64 x2, .int .i64 xu, .int .i64 xs, .int .i64 xk, .int .i64 xh, .int .i64 xn, .string xt, .int .i64 xq] 29)) cu cs ck ch cn ct
    rw [show (w.alloc (.cells #[.int .i64 x1, .int .i64 x2, .int .i64 xu, .int .i64 xs, .int .i64 xk, .int .i64 xh, .int .i64 xn, .string xt, .int .i64 xq] 29)).heap.size = w.heap.size + 1 by simp] at h1
    exact (h1.on ((Below.refl _ _).alloc (Nat.le_refl _) _) (by first | (simp; done) | (simp; omega)))
  have Dj0 : At.Ib (((w.alloc (.cells #[.int .i64 x1, .int .i64 x2, .int .i64 xu, .int .i64 xs, .int .i64 xk, .int .i64 xh, .int .i64 xn, .string xt, .int .i64 xq] 29)).alloc (.cells #[.int .i64 cu, .int .i64 cs, .int .i64 ck, .int .i64 ch, .int .i64 cn, .string ct] 24)).alloc (.cells #[.int .i64 j1, .int .i64 j2] 26)) (w.heap.size + 1 + 1) j1 j2 := by
    have h1 := At.ib_new ((w.alloc (.cells #[.int .i64 x1, .int .i64 x2, .int .i64 xu, .int .i64 xs, .int .i64 xk, .int .i64 xh, .int .i64 xn, .string xt, .int .i64 xq] 29)).alloc (.cells #[.int .i64 cu, .int .i64 cs, .int .i64 ck, .int .i64 ch, .int .i64 cn, .string ct] 24)) j1 j2
    rw [show ((w.alloc (.cells #[.int .i64 x1, .int .i64 x2, .int .i64 xu, .int .i64 xs, .int .i64 xk, .int .i64 xh, .int .i64 xn, .string xt, .int .i64 xq] 29)).alloc (.cells #[.int .i64 cu, .int .i64 cs, .int .i64 ck, .int .i64 ch, .int .i64 cn, .string ct] 24)).heap.size = w.heap.size + 1 + 1 by simp] at h1
    exact h1
  have N0 := hN.on B0
  go_enter Tryd.func6, Tryd.ntmps6
  go_wp2_with fail
  generalize (((w.alloc (.cells #[.int .i64 x1, .int .i64 x2, .int .i64 xu, .int .i64 xs, .int .i64 xk, .int .i64 xh, .int .i64 xn, .string xt, .int .i64 xq] 29)).alloc (.cells #[.int .i64 cu, .int .i64 cs, .int .i64 ck, .int .i64 ch, .int .i64 cn, .string ct] 24)).alloc (.cells #[.int .i64 j1, .int .i64 j2] 26)) = W0 at *
  refine (awake_any W0 N0).mono ?_
  rintro e W1 ⟨rfl, B1⟩
  have z1 := B1.size
  have N1 := N0.on B1
  have Dx1 := Dx0.on B1 (by omega)
  have Dc1 := Dc0.on B1 (by omega)
  have Dj1 := Dj0.on B1 (by omega)
  have BE := B0.trans (B1.mono (by omega))
  clear Dx0 Dc0 Dj0
  clear B1 B0 N0
  have HS := Lib.hid (hs.up BE)
  have HLW := Lib.hid hlow
  have hl' : l.length ≤ 60 := by omega
  clear hs hlow
  obtain ⟨gx0, gx1, gx2, gx3, gx4, gx5, gx6, gx7, gx8⟩ := id Dx1
  go_wp2_with fail
  clear gx0 gx1 gx2 gx3 gx4 gx5 gx6 gx7 gx8
  go_loopw [12] (fun tt wr => ∃ p : Nat, p ≤ l.length ∧ tt = .int .i64 (p : Int) ∧ wr = W1) (fun tt _ => 61 - (intOf tt).toNat)
  case atStart => exact ⟨0, Nat.zero_le _, rfl, rfl⟩
  case round =>
    obtain ⟨p, hp, rfl, rfl⟩ := hrel
    by_cases hlp : p < l.length
    · have hlpi : (p : Int) < (l.length : Int) := by omega
      have hp0 : (0 : Int) ≤ (p : Int) := by omega
      rcases HS.out with rfl | ⟨b, off, rfl, hb, hc⟩
      · simp at hlp
      obtain ⟨_, _, _, _, _, _, _, _, e8⟩ := hc p l[p] (List.getElem?_eq_getElem hlp)
      generalize l[p].q = q at *
      clear hc
      by_cases hq : 1099511627776 < q
      · go_wp2
        go_ret
        exact ⟨rfl, BE⟩
      · go_wp2
        go_roundw
        case rel => exact ⟨p + 1, by omega, by go_num, (by first | rfl | trivial)⟩
        case measure => simp [intOf]; omega
    · obtain rfl : p = l.length := by omega
      have H10 : ∀ W, Nd W → Ns W W.heap.size A l → Hid (Calls Tryd.prog 10 #[.slice A l.length cp, (cv cu cs ck ch cn ct), (.agg #[.int .i64 j1, .int .i64 j2]), .int .i64 n] W (AtP W (Pq (N : Int) l ⟨cu, cs, ck, ch, cn, ct⟩ (j1, j2)) N)) := fun W h1 h2 => by have := of_prog N n cu cs ck ch cn j1 j2 ct A cp l W h1 hn h7 (by omega) h2 HLW.out; rw [hn] at this; exact this
      have H10c : ∀ W A c, Nd W → Ns W W.heap.size A (l ++ [⟨(x1, x2), ⟨xu, xs, xk, xh, xn, xt⟩, xq⟩]) → Hid (Calls Tryd.prog 10 #[.slice A (l.length + 1) c, (cv cu cs ck ch cn ct), (.agg #[.int .i64 j1, .int .i64 j2]), .int .i64 n] W (AtP W (Pq (N : Int) (l ++ [⟨(x1, x2), ⟨xu, xs, xk, xh, xn, xt⟩, xq⟩]) ⟨cu, cs, ck, ch, cn, ct⟩ (j1, j2)) N)) := fun W A c h1 h2 => by
        have h3 := of_prog N n cu cs ck ch cn j1 j2 ct A c (l ++ [⟨(x1, x2), ⟨xu, xs, xk, xh, xn, xt⟩, xq⟩]) W h1 hn h7 (by rw [List.length_append]; simp; omega) h2 (fun k hk => by
          rcases List.mem_append.1 hk with hk | hk
          · exact HLW.out k hk
          · simp at hk; subst hk; exact hqa)
        rw [hn, List.length_append] at h3
        exact h3
      obtain ⟨gc0, gc1, gc2, gc3, gc4, gc5⟩ := id Dc1
      obtain ⟨gj0, gj1⟩ := id Dj1
      go_wp2_with fail
      clear gc0 gc1 gc2 gc3 gc4 gc5
      clear gj0 gj1
      refine (H10 _ N1 HS.out).out.mono ?_
      rintro e V2 ⟨sa, da, ga, rfl, Ra, hga, B2, Ia⟩
      have z2 := B2.size
      have BA : Below V2.heap.size V2 (V2.alloc (.cells #[.int .i64 sa, .slice (some ⟨ga, 0, none⟩) N N] 32)) := (Below.refl _ _).alloc (Nat.le_refl _) _
      have PA := At.ax_new V2 sa (some ⟨ga, 0, none⟩) N N
      have Y0 := (HS.out.up B2).up BA
      have Ra2 := Ra.old (.cells #[.int .i64 sa, .slice (some ⟨ga, 0, none⟩) N N] 32)
      have BE2 := BE.trans ((B2.trans (BA.mono z2)).mono (by omega))
      have D2x := (Dx1.on B2 (by omega)).on BA (by omega)
      have D2c := (Dc1.on B2 (by omega)).on BA (by omega)
      have D2j := (Dj1.on B2 (by omega)).on BA (by omega)
      have N2 := (N1.on B2).on BA
      have Z2 : (V2.alloc (.cells #[.int .i64 sa, .slice (some ⟨ga, 0, none⟩) N N] 32)).heap.size = V2.heap.size + 1 := by simp
      have hgl := Ra.lt
      have HIA := Lib.hid Ia
      clear Ra B2 BA H10 HS Dx1 Dc1 Dj1 N1 BE Ia
      go_upto_region 10 with fail
      generalize (V2.alloc (.cells #[.int .i64 sa, .slice (some ⟨ga, 0, none⟩) N N] 32)) = w2 at *
      generalize V2.heap.size = pa at *
      have zpa : pa < w2.heap.size := by omega
      have zga : ga < w2.heap.size := by omega
      have hw2 : w.heap.size + 1 + 1 < w2.heap.size := by omega
      clear Z2
      have SB : Hid (∀ v, Below w2.heap.size w2 v → ((v.cell? ⟨w.heap.size, 0, none⟩ = some (.int .i64 x1) ∧ v.cell? ⟨w.heap.size, 1, none⟩ = some (.int .i64 x2) ∧ v.cell? ⟨w.heap.size, 2, none⟩ = some (.int .i64 xu) ∧ v.cell? ⟨w.heap.size, 3, none⟩ = some (.int .i64 xs) ∧ v.cell? ⟨w.heap.size, 4, none⟩ = some (.int .i64 xk) ∧ v.cell? ⟨w.heap.size, 5, none⟩ = some (.int .i64 xh) ∧ v.cell? ⟨w.heap.size, 6, none⟩ = some (.int .i64 xn) ∧ v.cell? ⟨w.heap.size, 7, none⟩ = some (.string xt) ∧ v.cell? ⟨w.heap.size, 8, none⟩ = some (.int .i64 xq)) ∧ (v.cell? ⟨w.heap.size + 1, 0, none⟩ = some (.int .i64 cu) ∧ v.cell? ⟨w.heap.size + 1, 1, none⟩ = some (.int .i64 cs) ∧ v.cell? ⟨w.heap.size + 1, 2, none⟩ = some (.int .i64 ck) ∧ v.cell? ⟨w.heap.size + 1, 3, none⟩ = some (.int .i64 ch) ∧ v.cell? ⟨w.heap.size + 1, 4, none⟩ = some (.int .i64 cn) ∧ v.cell? ⟨w.heap.size + 1, 5, none⟩ = some (.string ct)) ∧ (v.cell? ⟨w.heap.size + 1 + 1, 0, none⟩ = some (.int .i64 j1) ∧ v.cell? ⟨w.heap.size + 1 + 1, 1, none⟩ = some (.int .i64 j2)))) := fun v hb => ⟨D2x.on hb (by omega), D2c.on hb (by omega), D2j.on hb (by omega)⟩
      have H10b : ∀ W A c, Below w2.heap.size w2 W → Ns W W.heap.size A (l ++ [⟨(x1, x2), ⟨xu, xs, xk, xh, xn, xt⟩, xq⟩]) → Hid (Calls Tryd.prog 10 #[.slice A (l.length + 1) c, (cv cu cs ck ch cn ct), (.agg #[.int .i64 j1, .int .i64 j2]), .int .i64 n] W (AtP W (Pq (N : Int) (l ++ [⟨(x1, x2), ⟨xu, xs, xk, xh, xn, xt⟩, xq⟩]) ⟨cu, cs, ck, ch, cn, ct⟩ (j1, j2)) N)) := fun W A c hb h2 => H10c W A c (N2.on hb) h2
      have BD : Hid (Below w2.heap.size w2 w2.drew) := (Below.refl _ _).drew
      have bA : Hid (∀ o, Below w2.heap.size w2 (w2.alloc o).drew) := fun o => ((Below.refl _ _).alloc (Nat.le_refl _) _).drew
      have bAA : Hid (∀ o o', Below w2.heap.size w2 ((w2.alloc o).alloc o').drew) := fun o o' => (((Below.refl _ _).alloc (Nat.le_refl _) _).alloc (by simp) _).drew
      have hY := Lib.hid Y0
      have hl9 : l.length ≤ 1000 := by omega
      have HD2x := Lib.hid D2x
      have HD2c := Lib.hid D2c
      have HD2j := Lib.hid D2j
      have HPA := Lib.hid PA
      have HRa := Lib.hid Ra2
      clear D2x D2c D2j PA Ra2 Y0 H10c
      go_cut [14] (fun s14 wc => ∃ L : Nat, s14 = .pointer (some ⟨L, 0, none⟩) ∧ Lg w2 (Pq (N : Int) (l ++ [⟨(x1, x2), ⟨xu, xs, xk, xh, xn, xt⟩, xq⟩]) ⟨cu, cs, ck, ch, cn, ct⟩ (j1, j2)) N L wc)
      case first =>
        obtain ⟨⟨s0, s1, s2, s3, s4, s5, s6, s7, s8⟩, ⟨t0, t1, t2, t3, t4, t5⟩, ⟨i0, i1⟩⟩ := SB.out w2 (Below.refl _ _)
        go_region_held3 (fun v => ((v.cell? ⟨w.heap.size, 0, none⟩ = some (.int .i64 x1) ∧ v.cell? ⟨w.heap.size, 1, none⟩ = some (.int .i64 x2) ∧ v.cell? ⟨w.heap.size, 2, none⟩ = some (.int .i64 xu) ∧ v.cell? ⟨w.heap.size, 3, none⟩ = some (.int .i64 xs) ∧ v.cell? ⟨w.heap.size, 4, none⟩ = some (.int .i64 xk) ∧ v.cell? ⟨w.heap.size, 5, none⟩ = some (.int .i64 xh) ∧ v.cell? ⟨w.heap.size, 6, none⟩ = some (.int .i64 xn) ∧ v.cell? ⟨w.heap.size, 7, none⟩ = some (.string xt) ∧ v.cell? ⟨w.heap.size, 8, none⟩ = some (.int .i64 xq)) ∧ (v.cell? ⟨w.heap.size + 1, 0, none⟩ = some (.int .i64 cu) ∧ v.cell? ⟨w.heap.size + 1, 1, none⟩ = some (.int .i64 cs) ∧ v.cell? ⟨w.heap.size + 1, 2, none⟩ = some (.int .i64 ck) ∧ v.cell? ⟨w.heap.size + 1, 3, none⟩ = some (.int .i64 ch) ∧ v.cell? ⟨w.heap.size + 1, 4, none⟩ = some (.int .i64 cn) ∧ v.cell? ⟨w.heap.size + 1, 5, none⟩ = some (.string ct)) ∧ (v.cell? ⟨w.heap.size + 1 + 1, 0, none⟩ = some (.int .i64 j1) ∧ v.cell? ⟨w.heap.size + 1 + 1, 1, none⟩ = some (.int .i64 j2))))
          (first | exact SB.out _ BD.out | exact SB.out _ (bA.out _) | exact SB.out _ (bAA.out _ _) | exact SB.out _ B5 | exact SB.out _ (c5 _) | exact SB.out _ B4 | exact SB.out _ (c4' _) | exact SB.out _ B3 | exact SB.out _ (c3 _) | exact SB.out _ (c33 _ _) | exact SB.out _ ((B5.setCell (by dsimp only; omega) _).setCell (by dsimp only; omega) _))
          (first
          | ((with_reducible refine at_world (w2.drew) ?_); refine step_app9 (w := w2.drew) (by rfl) (.const (.slice none 0 0)) (.tmp 46) (by rfl) (by rfl) A cp l (by rfl) w2 BD.out hY.out hl9 ?_; intro v1 w3 own1 kp1 B3; have b3 := B3.size; have c3 : ∀ o, Below w2.heap.size w2 (w3.alloc o) := fun o => B3.alloc B3.size o; have c33 : ∀ o o', Below w2.heap.size w2 ((w3.alloc o).alloc o') := fun o o' => (B3.alloc B3.size o).alloc (B3.alloc B3.size o).size o')
          | ((with_reducible refine at_world ((w2.alloc (.cells #[.int .i64 0, .slice none 0 0] 32)).drew) ?_); refine step_app9 (w := (w2.alloc (.cells #[.int .i64 0, .slice none 0 0] 32)).drew) (by rfl) (.const (.slice none 0 0)) (.tmp 46) (by rfl) (by rfl) A cp l (by rfl) w2 (bA.out _) hY.out hl9 ?_; intro v1 w3 own1 kp1 B3; have b3 := B3.size; have c3 : ∀ o, Below w2.heap.size w2 (w3.alloc o) := fun o => B3.alloc B3.size o; have c33 : ∀ o o', Below w2.heap.size w2 ((w3.alloc o).alloc o') := fun o o' => (B3.alloc B3.size o).alloc (B3.alloc B3.size o).size o'; have LP := kp1 w2.heap.size Z32 (al_new w2 (.cells #[.int .i64 0, .slice none 0 0] 32)))
          | ((with_reducible refine at_world ((w2.alloc (.cells #[.int .i64 x1, .int .i64 x2, .int .i64 xu, .int .i64 xs, .int .i64 xk, .int .i64 xh, .int .i64 xn, .string xt, .int .i64 xq] 29)).drew) ?_); refine step_app9 (w := (w2.alloc (.cells #[.int .i64 x1, .int .i64 x2, .int .i64 xu, .int .i64 xs, .int .i64 xk, .int .i64 xh, .int .i64 xn, .string xt, .int .i64 xq] 29)).drew) (by rfl) (.const (.slice none 0 0)) (.tmp 46) (by rfl) (by rfl) A cp l (by rfl) w2 (bA.out _) hY.out hl9 ?_; intro v1 w3 own1 kp1 B3; have b3 := B3.size; have c3 : ∀ o, Below w2.heap.size w2 (w3.alloc o) := fun o => B3.alloc B3.size o; have c33 : ∀ o o', Below w2.heap.size w2 ((w3.alloc o).alloc o') := fun o o' => (B3.alloc B3.size o).alloc (B3.alloc B3.size o).size o'; have ZP := kp1 w2.heap.size (Z29 ⟨(x1, x2), ⟨xu, xs, xk, xh, xn, xt⟩, xq⟩) (al_new w2 (.cells #[.int .i64 x1, .int .i64 x2, .int .i64 xu, .int .i64 xs, .int .i64 xk, .int .i64 xh, .int .i64 xn, .string xt, .int .i64 xq] 29)))
          | ((with_reducible refine at_world (((w2.alloc (.cells #[.int .i64 x1, .int .i64 x2, .int .i64 xu, .int .i64 xs, .int .i64 xk, .int .i64 xh, .int .i64 xn, .string xt, .int .i64 xq] 29)).alloc (.cells #[.int .i64 0, .slice none 0 0] 32)).drew) ?_); refine step_app9 (w := ((w2.alloc (.cells #[.int .i64 x1, .int .i64 x2, .int .i64 xu, .int .i64 xs, .int .i64 xk, .int .i64 xh, .int .i64 xn, .string xt, .int .i64 xq] 29)).alloc (.cells #[.int .i64 0, .slice none 0 0] 32)).drew) (by rfl) (.const (.slice none 0 0)) (.tmp 46) (by rfl) (by rfl) A cp l (by rfl) w2 (bAA.out _ _) hY.out hl9 ?_; intro v1 w3 own1 kp1 B3; have b3 := B3.size; have c3 : ∀ o, Below w2.heap.size w2 (w3.alloc o) := fun o => B3.alloc B3.size o; have c33 : ∀ o o', Below w2.heap.size w2 ((w3.alloc o).alloc o') := fun o o' => (B3.alloc B3.size o).alloc (B3.alloc B3.size o).size o'; have ZP := kp1 w2.heap.size (Z29 ⟨(x1, x2), ⟨xu, xs, xk, xh, xn, xt⟩, xq⟩) (al2_old w2 (.cells #[.int .i64 x1, .int .i64 x2, .int .i64 xu, .int .i64 xs, .int .i64 xk, .int .i64 xh, .int .i64 xn, .string xt, .int .i64 xq] 29) (.cells #[.int .i64 0, .slice none 0 0] 32)); have LP := kp1 (w2.heap.size + 1) Z32 (al2_new w2 (.cells #[.int .i64 x1, .int .i64 x2, .int .i64 xu, .int .i64 xs, .int .i64 xk, .int .i64 xh, .int .i64 xn, .string xt, .int .i64 xq] 29) (.cells #[.int .i64 0, .slice none 0 0] 32)))
          | ((with_reducible refine at_world (((w2.alloc (.cells #[.int .i64 0, .slice none 0 0] 32)).alloc (.cells #[.int .i64 x1, .int .i64 x2, .int .i64 xu, .int .i64 xs, .int .i64 xk, .int .i64 xh, .int .i64 xn, .string xt, .int .i64 xq] 29)).drew) ?_); refine step_app9 (w := ((w2.alloc (.cells #[.int .i64 0, .slice none 0 0] 32)).alloc (.cells #[.int .i64 x1, .int .i64 x2, .int .i64 xu, .int .i64 xs, .int .i64 xk, .int .i64 xh, .int .i64 xn, .string xt, .int .i64 xq] 29)).drew) (by rfl) (.const (.slice none 0 0)) (.tmp 46) (by rfl) (by rfl) A cp l (by rfl) w2 (bAA.out _ _) hY.out hl9 ?_; intro v1 w3 own1 kp1 B3; have b3 := B3.size; have c3 : ∀ o, Below w2.heap.size w2 (w3.alloc o) := fun o => B3.alloc B3.size o; have c33 : ∀ o o', Below w2.heap.size w2 ((w3.alloc o).alloc o') := fun o o' => (B3.alloc B3.size o).alloc (B3.alloc B3.size o).size o'; have LP := kp1 w2.heap.size Z32 (al2_old w2 (.cells #[.int .i64 0, .slice none 0 0] 32) (.cells #[.int .i64 x1, .int .i64 x2, .int .i64 xu, .int .i64 xs, .int .i64 xk, .int .i64 xh, .int .i64 xn, .string xt, .int .i64 xq] 29)); have ZP := kp1 (w2.heap.size + 1) (Z29 ⟨(x1, x2), ⟨xu, xs, xk, xh, xn, xt⟩, xq⟩) (al2_new w2 (.cells #[.int .i64 0, .slice none 0 0] 32) (.cells #[.int .i64 x1, .int .i64 x2, .int .i64 xu, .int .i64 xs, .int .i64 xk, .int .i64 xh, .int .i64 xn, .string xt, .int .i64 xq] 29)))
          | ((with_reducible refine at_world (w3) ?_); refine step_one9 (w := w3) (by rfl) (.tmp 47) (.tmp 49) (by rfl) v1 (by rfl) l w2 own1 ⟨(x1, x2), ⟨xu, xs, xk, xh, xn, xt⟩, xq⟩ _ (by rfl) ZP B3 hl9 ?_; intro g c4 w4 ns4 kl4 B4; have b4 := B4.size; have c4' : ∀ o, Below w2.heap.size w2 (w4.alloc o) := fun o => B4.alloc B4.size o; first | (have LX := kl4 _ (LP)) | skip)
          | ((with_reducible refine at_world (w3.alloc (.cells #[.int .i64 x1, .int .i64 x2, .int .i64 xu, .int .i64 xs, .int .i64 xk, .int .i64 xh, .int .i64 xn, .string xt, .int .i64 xq] 29)) ?_); refine step_one9 (w := w3.alloc (.cells #[.int .i64 x1, .int .i64 x2, .int .i64 xu, .int .i64 xs, .int .i64 xk, .int .i64 xh, .int .i64 xn, .string xt, .int .i64 xq] 29)) (by rfl) (.tmp 47) (.tmp 49) (by rfl) v1 (by rfl) l w2 (own1.alloc _) ⟨(x1, x2), ⟨xu, xs, xk, xh, xn, xt⟩, xq⟩ w3.heap.size (by rfl) (al_new w3 (.cells #[.int .i64 x1, .int .i64 x2, .int .i64 xu, .int .i64 xs, .int .i64 xk, .int .i64 xh, .int .i64 xn, .string xt, .int .i64 xq] 29)) (c3 _) hl9 ?_; intro g c4 w4 ns4 kl4 B4; have b4 := B4.size; have c4' : ∀ o, Below w2.heap.size w2 (w4.alloc o) := fun o => B4.alloc B4.size o; first | (have LX := kl4 _ ((Below.heap_alloc w3 (.cells #[.int .i64 x1, .int .i64 x2, .int .i64 xu, .int .i64 xs, .int .i64 xk, .int .i64 xh, .int .i64 xn, .string xt, .int .i64 xq] 29) _ (lt_of_block LP)).trans LP)) | skip)
          | ((with_reducible refine at_world (w3.alloc (.cells #[.int .i64 0, .slice none 0 0] 32)) ?_); refine step_one9 (w := w3.alloc (.cells #[.int .i64 0, .slice none 0 0] 32)) (by rfl) (.tmp 47) (.tmp 49) (by rfl) v1 (by rfl) l w2 (own1.alloc _) ⟨(x1, x2), ⟨xu, xs, xk, xh, xn, xt⟩, xq⟩ _ (by rfl) ((Below.heap_alloc w3 (.cells #[.int .i64 0, .slice none 0 0] 32) _ (lt_of_block ZP)).trans ZP) (c3 _) hl9 ?_; intro g c4 w4 ns4 kl4 B4; have b4 := B4.size; have c4' : ∀ o, Below w2.heap.size w2 (w4.alloc o) := fun o => B4.alloc B4.size o; have LX := kl4 _ (al_new w3 (.cells #[.int .i64 0, .slice none 0 0] 32)))
          | ((with_reducible refine at_world ((w3.alloc (.cells #[.int .i64 x1, .int .i64 x2, .int .i64 xu, .int .i64 xs, .int .i64 xk, .int .i64 xh, .int .i64 xn, .string xt, .int .i64 xq] 29)).alloc (.cells #[.int .i64 0, .slice none 0 0] 32)) ?_); refine step_one9 (w := (w3.alloc (.cells #[.int .i64 x1, .int .i64 x2, .int .i64 xu, .int .i64 xs, .int .i64 xk, .int .i64 xh, .int .i64 xn, .string xt, .int .i64 xq] 29)).alloc (.cells #[.int .i64 0, .slice none 0 0] 32)) (by rfl) (.tmp 47) (.tmp 49) (by rfl) v1 (by rfl) l w2 ((own1.alloc _).alloc _) ⟨(x1, x2), ⟨xu, xs, xk, xh, xn, xt⟩, xq⟩ w3.heap.size (by rfl) (al2_old w3 (.cells #[.int .i64 x1, .int .i64 x2, .int .i64 xu, .int .i64 xs, .int .i64 xk, .int .i64 xh, .int .i64 xn, .string xt, .int .i64 xq] 29) (.cells #[.int .i64 0, .slice none 0 0] 32)) (c33 _ _) hl9 ?_; intro g c4 w4 ns4 kl4 B4; have b4 := B4.size; have c4' : ∀ o, Below w2.heap.size w2 (w4.alloc o) := fun o => B4.alloc B4.size o; have LX := kl4 _ (al2_new w3 (.cells #[.int .i64 x1, .int .i64 x2, .int .i64 xu, .int .i64 xs, .int .i64 xk, .int .i64 xh, .int .i64 xn, .string xt, .int .i64 xq] 29) (.cells #[.int .i64 0, .slice none 0 0] 32)))
          | ((with_reducible refine at_world ((w3.alloc (.cells #[.int .i64 0, .slice none 0 0] 32)).alloc (.cells #[.int .i64 x1, .int .i64 x2, .int .i64 xu, .int .i64 xs, .int .i64 xk, .int .i64 xh, .int .i64 xn, .string xt, .int .i64 xq] 29)) ?_); refine step_one9 (w := (w3.alloc (.cells #[.int .i64 0, .slice none 0 0] 32)).alloc (.cells #[.int .i64 x1, .int .i64 x2, .int .i64 xu, .int .i64 xs, .int .i64 xk, .int .i64 xh, .int .i64 xn, .string xt, .int .i64 xq] 29)) (by rfl) (.tmp 47) (.tmp 49) (by rfl) v1 (by rfl) l w2 ((own1.alloc _).alloc _) ⟨(x1, x2), ⟨xu, xs, xk, xh, xn, xt⟩, xq⟩ (w3.heap.size + 1) (by rfl) (al2_new w3 (.cells #[.int .i64 0, .slice none 0 0] 32) (.cells #[.int .i64 x1, .int .i64 x2, .int .i64 xu, .int .i64 xs, .int .i64 xk, .int .i64 xh, .int .i64 xn, .string xt, .int .i64 xq] 29)) (c33 _ _) hl9 ?_; intro g c4 w4 ns4 kl4 B4; have b4 := B4.size; have c4' : ∀ o, Below w2.heap.size w2 (w4.alloc o) := fun o => B4.alloc B4.size o; have LX := kl4 _ (al2_old w3 (.cells #[.int .i64 0, .slice none 0 0] 32) (.cells #[.int .i64 x1, .int .i64 x2, .int .i64 xu, .int .i64 xs, .int .i64 xk, .int .i64 xh, .int .i64 xn, .string xt, .int .i64 xq] 29)))
          | (go_at_call 10; (with_reducible refine (H10b (w4) _ _ B4 ns4).out.mono ?_); rintro e w5 ⟨sb, db, gb, rfl, Rb, hgb, B5', Ib⟩; have B5 := (B4).trans (B5'.mono (B4).size); have b5 := B5'.size; have c5 : ∀ o, Below w2.heap.size w2 (w5.alloc o) := fun o => B5.alloc B5.size o; first | (have LX5 := (B5'.block _ (lt_of_block LX)).trans LX; have hLg := Nat.lt_of_lt_of_le (lt_of_block LX) hgb; have LF0 := Lib.frozen_of_heap LX5 0; have LF1 := Lib.frozen_of_heap LX5 1; obtain ⟨LC0, LC1⟩ := At.Ax.rb (a := 0) (A := none) (n := 0) (c := 0) LX5) | skip)
          | (go_at_call 10; (with_reducible refine (H10b (w4.alloc (.cells #[.int .i64 0, .slice none 0 0] 32)) _ _ (c4' _) (ns4.up ((Below.refl _ _).alloc (Nat.le_refl _) _))).out.mono ?_); rintro e w5 ⟨sb, db, gb, rfl, Rb, hgb, B5', Ib⟩; have B5 := ((c4' _)).trans (B5'.mono ((c4' _)).size); have b5 := B5'.size; have c5 : ∀ o, Below w2.heap.size w2 (w5.alloc o) := fun o => B5.alloc B5.size o; have LX5 := (B5'.block w4.heap.size (by simp)).trans (al_new w4 (.cells #[.int .i64 0, .slice none 0 0] 32)); have hLg : w4.heap.size < gb := Nat.lt_of_lt_of_le (by simp) hgb; have LF0 := Lib.frozen_of_heap LX5 0; have LF1 := Lib.frozen_of_heap LX5 1; obtain ⟨LC0, LC1⟩ := At.Ax.rb (a := 0) (A := none) (n := 0) (c := 0) LX5))
        all_goals (
          go_wp2_with fail
          go_meet
          first | exact ⟨_, rfl, fin_new Rb Ib B5 (by omega)⟩ | exact ⟨_, rfl, fin_set Rb Ib B5 LX5 (by omega) hLg⟩)
      case rest =>
      obtain ⟨L', rfl, sb, db, gb, PB, Rb, Ib, hbc, hLb, hgb⟩ := hcut
      have zc := hbc.size
      have hgw2 : ga < wc.heap.size := by omega
      obtain ⟨pa0, pa1⟩ := (HPA.out.on hbc (by omega)).rb
      obtain ⟨pb0, pb1⟩ := PB.rb
      have Rac := rx_up HRa.out hbc
      have hpb := PB.lt
      obtain ⟨hm1, hm2⟩ := HIA.out.mono Ib (fun i q ⟨k, hk, h⟩ => ⟨k, List.mem_append_left _ hk, h⟩)
      have HW := Lib.hid (within_yes N h7 wc ga gb sa sb da db HIA.out.len Ib.len Rac Rb hm1 hm2)
      have HDx := Lib.hid (HD2x.out.on hbc (by omega))
      have HDc := Lib.hid (HD2c.out.on hbc (by omega))
      have Nc := N2.on hbc
      have BEc := BE2.trans (hbc.mono (by omega))
      have HPA5 := Lib.hid (HPA.out.on hbc (by omega))
      have HPB5 := Lib.hid PB
      have HRa5 := Lib.hid Rac
      have HRb5 := Lib.hid Rb
      have HIb := Lib.hid Ib
      clear PB Rb Rac Ib hm1 hm2 HD2x HD2c HD2j HPA HRa BE2 N2 hbc SB H10b BD bA bAA hY
      go_wp2_with fail
      refine HW.out.mono ?_
      rintro e wd ⟨rfl, hbd⟩
      have zd := hbd.size
      clear pa0 pa1 pb0 pb1
      have Dx5 := HDx.out.on hbd (by omega)
      have Dc5 := HDc.out.on hbd (by omega)
      have Nd5 := Nc.on hbd
      have HI := Lib.hid (itf_any ⟨xu, xs, xk, xh, xn, xt⟩ ⟨cu, cs, ck, ch, cn, ct⟩ wd Nd5)
      have BEd := BEc.trans (hbd.mono (by omega))
      obtain ⟨gx0, gx1, gx2, gx3, gx4, gx5, gx6, gx7, gx8⟩ := id Dx5
      obtain ⟨gc0, gc1, gc2, gc3, gc4, gc5⟩ := id Dc5
      go_wp2_with fail
      clear gx0 gx1 gx2 gx3 gx4 gx5 gx6 gx7 gx8
      clear gc0 gc1 gc2 gc3 gc4 gc5
      refine HI.out.mono ?_
      rintro e we ⟨rfl, hbe⟩
      have ze := hbe.size
      have BEe := BEd.trans (hbe.mono (by omega))
      have HPA6 := (HPA5.out.on hbd (by omega)).on hbe (by omega)
      have HPB6 := (HPB5.out.on hbd (by omega)).on hbe (by omega)
      have HRa6 := Lib.hid (rx_up (rx_up HRa5.out hbd) hbe)
      have HRb6 := Lib.hid (rx_up (rx_up HRb5.out hbd) hbe)
      generalize hib : itf ⟨xu, xs, xk, xh, xn, xt⟩ ⟨cu, cs, ck, ch, cn, ct⟩ = ib at *
      have HIB := Lib.hid hib
      clear hib HI HW HPA5 HPB5 HRa5 HRb5 HDx HDc hbd hbe Dx5 Dc5
      cases ib
      · obtain ⟨rfl, rfl⟩ := HIA.out.uniq HIb.out (fun i q => ⟨fun ⟨k, hk, h⟩ => ⟨k, List.mem_append_left _ hk, h⟩, fun ⟨k, hk, h⟩ => by
          rcases List.mem_append.1 hk with hk | hk
          · exact ⟨k, hk, h⟩
          · simp only [List.mem_singleton] at hk
            subst hk
            have h3 := h.2.2.1
            rw [show itf _ _ = false from HIB.out] at h3
            cases h3⟩)
        obtain ⟨pa0, pa1⟩ := HPA6.rb
        obtain ⟨pb0, pb1⟩ := HPB6.rb
        have HSm := Lib.hid (same_yes3 N h7 we ga gb sa da HIA.out.len HRa6.out HRb6.out)
        clear HPA6 HPB6 HRa6 HRb6 HIb HIB HIA
        go_wp2_with fail
        refine HSm.out.mono ?_
        rintro e wf ⟨rfl, hbf⟩
        go_wp2
        go_ret
        exact ⟨rfl, BEe.trans (hbf.mono (by omega))⟩
      · clear HPA6 HPB6 HRa6 HRb6 HIb HIB HIA
        go_wp2
        go_ret
        exact ⟨rfl, BEe⟩

theorem walk (A : Option Addr) (cp : Nat) (l : List Kn) (a : Kn) (c : Cd) (j : Int × Int) (n : Int) (w : World) (hN : Nd w) (hs : Ns w w.heap.size A l) (hlow : ∀ k ∈ l, -9223372036854775808 ≤ k.q) (hqa : -9223372036854775808 ≤ a.q) (hw : (Lit.int .i64 n).wf = true) : Calls Tryd.prog 6 #[.slice A l.length cp, nv a, cv c.u c.s c.k c.h c.n c.t, iv j, .int .i64 n] w (UpPost w) := by
  obtain ⟨N, hn, _, h7⟩ := am_nat n
  by_cases hl : (60 : Int) < (l.length : Int)
  · exact early1 A cp l _ _ _ _ _ _ _ _ _ _ _ _ _ _ _ _ _ n w hN hl
  · by_cases ha : 1099511627776 < a.q
    · exact early2 A cp l _ _ _ _ _ _ _ _ _ _ _ _ _ _ _ _ _ n w hN hl ha
    · exact rest N A cp l _ _ _ _ _ _ _ _ _ _ _ _ _ _ _ _ _ n w hN hl ha hn h7 hs hlow hqa

set_option maxRecDepth 100000 in
theorem lifted (os : Os) (started : os.Started) (H : Type) (enc : TypeId × Value → H) :
    ReturnsInHanded {} Tryd.checked os 6 .any (fun w args => (Rows.indexGrowsSpec.pre enc Tryd.prog Tryd.f6 [] false w args ∧ laidMetH Tryd.prog laid4 w) ∧ sizedMet enc Tryd.prog Tryd.f6 (OpenSpec.ofChange Rows.indexGrowsSpec) false w args)
      (Rows.indexGrowsSpec.post enc Tryd.prog Tryd.f6 false true false false) := by
  refine returnsInHanded_of_change_and (C := Tryd.checked) (X := fun w _ => laidMetH Tryd.prog laid4 w) (fun _ _ _ hh h => h.of_heap hh) own started (by kernel_rfl) Tryd.func6
    (ChangeSpec.witness_shaped (enc := enc) (C := Tryd.checked) (os := os) (X := fun w _ => laidMetH Tryd.prog laid4 w) false (World.doorLaid Tryd.prog 18 os) #[.slice none 0 0, .agg #[.int .i64 0, .int .i64 0, .int .i64 0, .int .i64 0, .int .i64 0, .int .i64 0, .int .i64 0, .string ⟨#[]⟩, .int .i64 0], .agg #[.int .i64 0, .int .i64 0, .int .i64 0, .int .i64 0, .int .i64 0, .string ⟨#[]⟩], .agg #[.int .i64 0, .int .i64 0], .int .i64 0] 8 rfl (World.shaped_of_RefB (by kernel_rfl) (by kernel_rfl)) (by kernel_rfl) (by kernel_rfl) (by kernel_rfl) (door_met os _)) ?_
  intro W base args ds gs before hval0 hW _ _ hL _
  have hN := nd_of_laid hL
  have hval : ∀ (j : Nat) t v, Tryd.f6.params[j]? = some t → args[j]? = some v → Value.okWide Tryd.prog W .any base t v := hval0
  have hW' := hW
  obtain ⟨p, q, hA0, hV, rfl, hfz, hnd⟩ := hW
  have hA : DataW.TrodAll enc Tryd.prog W 0 (fun _ => true) true Tryd.f6.params.toList args.toList ds p := hA0
  rw [Tryd.params6] at hA hval
  obtain ⟨v0, vs0, d0, ds0, p0, q0, hargs, rfl, rfl, h0, r0⟩ := trodAll_cons hA
  obtain ⟨v1, vs1, d1, ds1, p1, q1, rfl, rfl, rfl, h1, r1⟩ := trodAll_cons r0
  obtain ⟨v2, vs2, d2, ds2, p2, q2, rfl, rfl, rfl, h2, r2⟩ := trodAll_cons r1
  obtain ⟨v3, vs3, d3, ds3, p3, q3, rfl, rfl, rfl, h3, r3⟩ := trodAll_cons r2
  obtain ⟨v4, vs4, d4, ds4, p4, q4, rfl, rfl, rfl, h4, r4⟩ := trodAll_cons r3
  obtain ⟨rfl, rfl, rfl⟩ := trodAll_nil r4
  obtain rfl : args = #[v0, v1, v2, v3, v4] := by cases args; simp_all
  obtain ⟨rfl, rfl⟩ := trodVars_none hV
  have k0' := h0
  have lt0 : ∀ x ∈ p0, x.block < W.heap.size := by obtain ⟨m, hm⟩ := k0'; exact DataW.trod_lt m _ _ _ hm
  obtain ⟨A0, c0, l0, rfl, s0', m0, y0⟩ := open_kns (hval 0 22 v0 rfl rfl) h0
  have k1' := h1
  have lt1 : ∀ x ∈ p1, x.block < W.heap.size := by obtain ⟨m, hm⟩ := k1'; exact DataW.trod_lt m _ _ _ hm
  obtain ⟨x1, rfl, q1, r1'⟩ := open_kn (hval 1 29 v1 rfl rfl) h1
  have k2' := h2
  have lt2 : ∀ x ∈ p2, x.block < W.heap.size := by obtain ⟨m, hm⟩ := k2'; exact DataW.trod_lt m _ _ _ hm
  obtain ⟨x2, rfl⟩ := open_cmd (hval 2 24 v2 rfl rfl) h2
  have k3' := h3
  have lt3 : ∀ x ∈ p3, x.block < W.heap.size := by obtain ⟨m, hm⟩ := k3'; exact DataW.trod_lt m _ _ _ hm
  obtain ⟨x3, rfl⟩ := open_inst (hval 3 26 v3 rfl rfl) h3
  obtain ⟨a4, rfl, rfl, rfl, w4⟩ := open_int Tryd.underlying3 (hval 4 3 v4 rfl rfl) h4
  clear hA0 hval0
  refine (walk A0 c0 l0 x1 x2 x3 a4 W hN s0' y0 q1   w4).mono fun e W' ⟨he, bel⟩ => ?_
  subst he
  exact ⟨_, rfl, _, _, _, [], _, [], hW', trodAll_mk1 (shut_bool Tryd.underlying4 _), (trodAll_cons_mk (Below.trod laidOut (by kernel_rfl) (of_decide_eq_true (by kernel_rfl)) k0' bel lt0) (trodAll_cons_mk (Below.trod laidOut (by kernel_rfl) (of_decide_eq_true (by kernel_rfl)) k1' bel lt1) (trodAll_cons_mk (Below.trod laidOut (by kernel_rfl) (of_decide_eq_true (by kernel_rfl)) k2' bel lt2) (trodAll_cons_mk (Below.trod laidOut (by kernel_rfl) (of_decide_eq_true (by kernel_rfl)) k3' bel lt3) (trodAll_cons_mk (shut_int Tryd.underlying3 w4) trodAll_mk0))))), rfl, bel.frame _, fun h => by cases h⟩

theorem over : Rows.IndexGrowsSaid :=
  OpenClaim.holds_of_wide 6 Tryd.f6 rfl rfl rfl rfl rfl rfl rfl ⟨rfl, rfl, rfl, rfl, rfl⟩ rfl rfl rfl rfl rfl (by kernel_rfl) Tryd.func6 (by kernel_rfl)
    (of_decide_eq_true (by kernel_rfl)) (by unfold Func.isWrapper; first | (rw [if_pos (by decide +kernel)]; kernel_rfl) | (rw [if_neg (by decide +kernel)]; exact ⟨rfl, rfl⟩))
    (fun os started H enc _ => lifted os started H enc)

theorem proved : Rows.IndexGrowsCardSaid :=
  Claim7.holds_tied_plain_at .later [] [.data] true (true, "ff0bb4375bea55efa16266bd5e425099be6e5092c0e69cdcc6c311bd18fe096f") false
    over (fun _ h => by cases h) (by kernel_rfl) (fun _ h => by cases h) indexGrows_row_tie rfl ⟨rfl, rfl⟩ (by kernel_rfl) rfl
    (fun f fn hf hfn => by
      obtain rfl : f = 6 := Option.some.inj ((show Tryd.prog.funcNamed "colloquy/colloquylaw08.IndexGrows" = some 6 by kernel_rfl).symm.trans hf) |>.symm
      obtain rfl : fn = Tryd.f6 := (Option.some.inj (Tryd.func6.symm.trans hfn)).symm
      exact ⟨by kernel_rfl, fun j t ht => by
        rw [Tryd.params6] at ht
        have hm : t ∈ [22, 29, 24, 26, 3] := by simpa using Array.mem_of_getElem? ht
        have hall : ([22, 29, 24, 26, 3].all fun u => !Tryd.prog.wantsStandIn u) = true := by kernel_rfl
        exact (show Tryd.prog.wantsStandIn t = false by simpa using List.all_eq_true.1 hall t hm)⟩)
    (by kernel_rfl)
#print axioms proved
end Go.Proofs.YtmeklhlojogdnaaDoor.indexGrows
