/-
  Of two commands that interfere, the one that is put first is waited for by the other one, whose number is greater: IndexWaits answers true whatever the list, the one that is known, the command, the instance and the number; they read as they did. Conditions: none beyond the card's own (the table of what kinds need reads as its initialiser lays it).
-/
import Derived.Test.YtmeklhlojogdnaaDoorAwk
import Derived.Test.YtmeklhlojogdnaaDoorOfr
import Derived.Test.YtmeklhlojogdnaaDoorAtRwi
import Derived.Test.YtmeklhlojogdnaaDoorAtSa
import Derived.Test.YtmeklhlojogdnaaDoorRpt
import Derived.Test.YtmeklhlojogdnaaDoorCards
import Derived.Test.YtmeklhlojogdnaaDoorTie
import Derived.SevenTiedAt
namespace Go.Proofs.YtmeklhlojogdnaaDoor.indexWaits
open Go.ChangeShapes Go.WideShapes Go.ChangeAt Go.RowKit Go.Joins
set_option linter.unusedVariables false

attribute [local go_sem ↓ high] eq26 guard26 neq26 guard26n

theorem early1 (A : Option Addr) (cp : Nat) (l : List Kn) (x1 x2 xu xs xk xh xn xq : Int) (xt : ByteArray) (cu cs ck ch cn : Int) (ct : ByteArray) (j1 j2 : Int) (n : Int) (w : World) (hN : Nd w) (hl : (60 : Int) < (l.length : Int)) : Calls Tryd.prog 5 #[.slice A l.length cp, (.agg #[.int .i64 x1, .int .i64 x2, .int .i64 xu, .int .i64 xs, .int .i64 xk, .int .i64 xh, .int .i64 xn, .string xt, .int .i64 xq]), (cv cu cs ck ch cn ct), (.agg #[.int .i64 j1, .int .i64 j2]), .int .i64 n] w (UpPost w) := by
  have H13 : ∀ W, Hid (Calls Tryd.prog 13 #[.int .i64 n] W fun e w' => e = .returned (.pointer (some ⟨W.heap.size, 0, none⟩)) ∧ w' = W.alloc (.cells #[.int .i64 n, .map none, .map none] 55)) := fun W => new_any n W
  have B0 : Below w.heap.size w (((w.alloc (.cells #[.int .i64 x1, .int .i64 x2, .int .i64 xu, .int .i64 xs, .int .i64 xk, .int .i64 xh, .int .i64 xn, .string xt, .int .i64 xq] 29)).alloc (.cells #[.int .i64 cu, .int .i64 cs, .int .i64 ck, .int .i64 ch, .int .i64 cn, .string ct] 24)).alloc (.cells #[.int .i64 j1, .int .i64 j2] 26)) := ((((Below.refl _ _).alloc (Nat.le_refl _) _).alloc (by first | (simp; done) | (simp; omega)) _).alloc (by first | (simp; done) | (simp; omega)) _)
  have Z0 : (((w.alloc (.cells #[.int .i64 x1, .int .i64 x2, .int .i64 xu, .int .i64 xs, .int .i64 xk, .int .i64 xh, .int .i64 xn, .string xt, .int .i64 xq] 29)).alloc (.cells #[.int .i64 cu, .int .i64 cs, .int .i64 ck, .int .i64 ch, .int .i64 cn, .string ct] 24)).alloc (.cells #[.int .i64 j1, .int .i64 j2] 26)).heap.size = w.heap.size + 1 + 1 + 1 := by simp
  have Dx0 : Nb (((w.alloc (.cells #[.int .i64 x1, .int .i64 x2, .int .i64 xu, .int .i64 xs, .int .i64 xk, .int .i64 xh, .int .i64 xn, .string xt, .int .i64 xq] 29)).alloc (.cells #[.int .i64 cu, .int .i64 cs, .int .i64 ck, .int .i64 ch, .int .i64 cn, .string ct] 24)).alloc (.cells #[.int .i64 j1, .int .i64 j2] 26)) (w.heap.size) ⟨(x1, x2), ⟨xu, xs, xk, xh, xn, xt⟩, xq⟩ := by
    have h1 := nb_new w ⟨(x1, x2), ⟨xu, xs, xk, xh, xn, xt⟩, xq⟩
    exact ((h1.on ((Below.refl _ _).alloc (Nat.le_refl _) _) (by first | (simp; done) | (simp; omega))).on ((Below.refl _ _).alloc (Nat.le_refl _) _) (by first | (simp; done) | (simp; omega)))
  have Dc0 : Cb (((w.alloc (.cells #[.int .i64 x1, .int .i64 x2, .int .i64 xu, .int .i64 xs, .int .i64 xk, .int .i64 xh, .int .i64 xn, .string xt, .int .i64 xq] 29)).alloc (.cells #[.int .i64 cu, .int .i64 cs, .int .i64 ck, .int .i64 ch, .int .i64 cn, .string ct] 24)).alloc (.cells #[.int .i64 j1, .int .i64 j2] 26)) (w.heap.size + 1) cu cs ck ch cn ct := by
    have h1 := cb_new (w.alloc (.cells #[.int .i64 x1, .int .i64 x2, .int .i64 xu, .int .i64 xs, .int .i64 xk, .int .i64 xh, .int .i64 xn, .string xt, .int .i64 xq] 29)) cu cs ck ch cn ct
    rw [show (w.alloc (.cells #[.int .i64 x1, .int .i64 x2, .int .i64 xu, .int .i64 xs, .int .i64 xk, .int .i64 xh, .int .i64 xn, .string xt, .int .i64 xq] 29)).heap.size = w.heap.size + 1 by simp] at h1
    exact (h1.on ((Below.refl _ _).alloc (Nat.le_refl _) _) (by first | (simp; done) | (simp; omega)))
  have Dj0 : At.Ib (((w.alloc (.cells #[.int .i64 x1, .int .i64 x2, .int .i64 xu, .int .i64 xs, .int .i64 xk, .int .i64 xh, .int .i64 xn, .string xt, .int .i64 xq] 29)).alloc (.cells #[.int .i64 cu, .int .i64 cs, .int .i64 ck, .int .i64 ch, .int .i64 cn, .string ct] 24)).alloc (.cells #[.int .i64 j1, .int .i64 j2] 26)) (w.heap.size + 1 + 1) j1 j2 := by
    have h1 := At.ib_new ((w.alloc (.cells #[.int .i64 x1, .int .i64 x2, .int .i64 xu, .int .i64 xs, .int .i64 xk, .int .i64 xh, .int .i64 xn, .string xt, .int .i64 xq] 29)).alloc (.cells #[.int .i64 cu, .int .i64 cs, .int .i64 ck, .int .i64 ch, .int .i64 cn, .string ct] 24)) j1 j2
    rw [show ((w.alloc (.cells #[.int .i64 x1, .int .i64 x2, .int .i64 xu, .int .i64 xs, .int .i64 xk, .int .i64 xh, .int .i64 xn, .string xt, .int .i64 xq] 29)).alloc (.cells #[.int .i64 cu, .int .i64 cs, .int .i64 ck, .int .i64 ch, .int .i64 cn, .string ct] 24)).heap.size = w.heap.size + 1 + 1 by simp] at h1
    exact h1
  have N0 := hN.on B0
  go_enter Tryd.func5, Tryd.ntmps5
  go_wp2_with fail
  generalize (((w.alloc (.cells #[.int .i64 x1, .int .i64 x2, .int .i64 xu, .int .i64 xs, .int .i64 xk, .int .i64 xh, .int .i64 xn, .string xt, .int .i64 xq] 29)).alloc (.cells #[.int .i64 cu, .int .i64 cs, .int .i64 ck, .int .i64 ch, .int .i64 cn, .string ct] 24)).alloc (.cells #[.int .i64 j1, .int .i64 j2] 26)) = W0 at *
  refine (awake_any W0 N0).mono ?_
  rintro e W1 ⟨rfl, B1⟩
  have z1 := B1.size
  have N1 := N0.on B1
  have Dx1 := Dx0.on B1 (by omega)
  have Dc1 := Dc0.on B1 (by omega)
  have Dj1 := Dj0.on B1 (by omega)
  have BE := B0.trans (B1.mono (by omega))
  clear Dx0 Dc0 Dj0
  clear B1 B0 N0
  go_wp2_with fail
  refine (H13 _).out.mono ?_
  rintro e W2 ⟨rfl, rfl⟩
  have BN : Below W1.heap.size W1 (W1.alloc (.cells #[.int .i64 n, .map none, .map none] 55)) := (Below.refl _ _).alloc (Nat.le_refl _) _
  have BE2 := BE.trans (BN.mono BE.size)
  go_wp2
  go_ret
  exact ⟨rfl, BE2⟩

theorem early2 (A : Option Addr) (cp : Nat) (l : List Kn) (x1 x2 xu xs xk xh xn xq : Int) (xt : ByteArray) (cu cs ck ch cn : Int) (ct : ByteArray) (j1 j2 : Int) (n : Int) (w : World) (hN : Nd w) (hl : ¬ (60 : Int) < (l.length : Int)) (h1 : n < 1) : Calls Tryd.prog 5 #[.slice A l.length cp, (.agg #[.int .i64 x1, .int .i64 x2, .int .i64 xu, .int .i64 xs, .int .i64 xk, .int .i64 xh, .int .i64 xn, .string xt, .int .i64 xq]), (cv cu cs ck ch cn ct), (.agg #[.int .i64 j1, .int .i64 j2]), .int .i64 n] w (UpPost w) := by
  have H13 : ∀ W, Hid (Calls Tryd.prog 13 #[.int .i64 n] W fun e w' => e = .returned (.pointer (some ⟨W.heap.size, 0, none⟩)) ∧ w' = W.alloc (.cells #[.int .i64 n, .map none, .map none] 55)) := fun W => new_any n W
  have B0 : Below w.heap.size w (((w.alloc (.cells #[.int .i64 x1, .int .i64 x2, .int .i64 xu, .int .i64 xs, .int .i64 xk, .int .i64 xh, .int .i64 xn, .string xt, .int .i64 xq] 29)).alloc (.cells #[.int .i64 cu, .int .i64 cs, .int .i64 ck, .int .i64 ch, .int .i64 cn, .string ct] 24)).alloc (.cells #[.int .i64 j1, .int .i64 j2] 26)) := ((((Below.refl _ _).alloc (Nat.le_refl _) _).alloc (by first | (simp; done) | (simp; omega)) _).alloc (by first | (simp; done) | (simp; omega)) _)
  have Z0 : (((w.alloc (.cells #[.int .i64 x1, .int .i64 x2, .int .i64 xu, .int .i64 xs, .int .i64 xk, .int .i64 xh, .int .i64 xn, .string xt, .int .i64 xq] 29)).alloc (.cells #[.int .i64 cu, .int .i64 cs, .int .i64 ck, .int .i64 ch, .int .i64 cn, .string ct] 24)).alloc (.cells #[.int .i64 j1, .int .i64 j2] 26)).heap.size = w.heap.size + 1 + 1 + 1 := by simp
  have Dx0 : Nb (((w.alloc (.cells #[.int .i64 x1, .int .i64 x2, .int .i64 xu, .int .i64 xs, .int .i64 xk, .int .i64 xh, .int .i64 xn, .string xt, .int .i64 xq] 29)).alloc (.cells #[.int .i64 cu, .int .i64 cs, .int .i64 ck, .int .i64 ch, .int .i64 cn, .string ct] 24)).alloc (.cells #[.int .i64 j1, .int .i64 j2] 26)) (w.heap.size) ⟨(x1, x2), ⟨xu, xs, xk, xh, xn, xt⟩, xq⟩ := by
    have h1 := nb_new w ⟨(x1, x2), ⟨xu, xs, xk, xh, xn, xt⟩, xq⟩
    exact ((h1.on ((Below.refl _ _).alloc (Nat.le_refl _) _) (by first | (simp; done) | (simp; omega))).on ((Below.refl _ _).alloc (Nat.le_refl _) _) (by first | (simp; done) | (simp; omega)))
  have Dc0 : Cb (((w.alloc (.cells #[.int .i64 x1, .int .i64 x2, .int .i64 xu, .int .i64 xs, .int .i64 xk, .int .i64 xh, .int .i64 xn, .string xt, .int .i64 xq] 29)).alloc (.cells #[.int .i64 cu, .int .i64 cs, .int .i64 ck, .int .i64 ch, .int .i64 cn, .string ct] 24)).alloc (.cells #[.int .i64 j1, .int .i64 j2] 26)) (w.heap.size + 1) cu cs ck ch cn ct := by
    have h1 := cb_new (w.alloc (.cells #[.int .i64 x1, .int .i64 x2, .int .i64 xu, .int .i64 xs, .int .i64 xk, .int .i64 xh, .int .i64 xn, .string xt, .int .i64 xq] 29)) cu cs ck ch cn ct
    rw [show (w.alloc (.cells #[.int .i64 x1, .int .i64 x2, .int .i64 xu, .int .i64 xs, .int .i64 xk, .int .i64 xh, .int .i64 xn, .string xt, .int .i64 xq] 29)).heap.size = w.heap.size + 1 by simp] at h1
    exact (h1.on ((Below.refl _ _).alloc (Nat.le_refl _) _) (by first | (simp; done) | (simp; omega)))
  have Dj0 : At.Ib (((w.alloc (.cells #[.int .i64 x1, .int .i64 x2, .int .i64 xu, .int .i64 xs, .int .i64 xk, .int .i64 xh, .int .i64 xn, .string xt, .int .i64 xq] 29)).alloc (.cells #[.int .i64 cu, .int .i64 cs, .int .i64 ck, .int .i64 ch, .int .i64 cn, .string ct] 24)).alloc (.cells #[.int .i64 j1, .int .i64 j2] 26)) (w.heap.size + 1 + 1) j1 j2 := by
    have h1 := At.ib_new ((w.alloc (.cells #[.int .i64 x1, .int .i64 x2, .int .i64 xu, .int .i64 xs, .int .i64 xk, .int .i64 xh, .int .i64 xn, .string xt, .int .i64 xq] 29)).alloc (.cells #[.int .i64 cu, .int .i64 cs, .int .i64 ck, .int .i64 ch, .int .i64 cn, .string ct] 24)) j1 j2
    rw [show ((w.alloc (.cells #[.int .i64 x1, .int .i64 x2, .int .i64 xu, .int .i64 xs, .int .i64 xk, .int .i64 xh, .int .i64 xn, .string xt, .int .i64 xq] 29)).alloc (.cells #[.int .i64 cu, .int .i64 cs, .int .i64 ck, .int .i64 ch, .int .i64 cn, .string ct] 24)).heap.size = w.heap.size + 1 + 1 by simp] at h1
    exact h1
  have N0 := hN.on B0
  go_enter Tryd.func5, Tryd.ntmps5
  go_wp2_with fail
  generalize (((w.alloc (.cells #[.int .i64 x1, .int .i64 x2, .int .i64 xu, .int .i64 xs, .int .i64 xk, .int .i64 xh, .int .i64 xn, .string xt, .int .i64 xq] 29)).alloc (.cells #[.int .i64 cu, .int .i64 cs, .int .i64 ck, .int .i64 ch, .int .i64 cn, .string ct] 24)).alloc (.cells #[.int .i64 j1, .int .i64 j2] 26)) = W0 at *
  refine (awake_any W0 N0).mono ?_
  rintro e W1 ⟨rfl, B1⟩
  have z1 := B1.size
  have N1 := N0.on B1
  have Dx1 := Dx0.on B1 (by omega)
  have Dc1 := Dc0.on B1 (by omega)
  have Dj1 := Dj0.on B1 (by omega)
  have BE := B0.trans (B1.mono (by omega))
  clear Dx0 Dc0 Dj0
  clear B1 B0 N0
  go_wp2_with fail
  refine (H13 _).out.mono ?_
  rintro e W2 ⟨rfl, rfl⟩
  have BN : Below W1.heap.size W1 (W1.alloc (.cells #[.int .i64 n, .map none, .map none] 55)) := (Below.refl _ _).alloc (Nat.le_refl _) _
  have BE2 := BE.trans (BN.mono BE.size)
  go_wp2
  go_ret
  exact ⟨rfl, BE2⟩

theorem early3 (A : Option Addr) (cp : Nat) (l : List Kn) (x1 x2 xu xs xk xh xn xq : Int) (xt : ByteArray) (cu cs ck ch cn : Int) (ct : ByteArray) (j1 j2 : Int) (n : Int) (w : World) (hN : Nd w) (hl : ¬ (60 : Int) < (l.length : Int)) (h1 : ¬ n < 1) (h2 : 7 < n) : Calls Tryd.prog 5 #[.slice A l.length cp, (.agg #[.int .i64 x1, .int .i64 x2, .int .i64 xu, .int .i64 xs, .int .i64 xk, .int .i64 xh, .int .i64 xn, .string xt, .int .i64 xq]), (cv cu cs ck ch cn ct), (.agg #[.int .i64 j1, .int .i64 j2]), .int .i64 n] w (UpPost w) := by
  have H13 : ∀ W, Hid (Calls Tryd.prog 13 #[.int .i64 n] W fun e w' => e = .returned (.pointer (some ⟨W.heap.size, 0, none⟩)) ∧ w' = W.alloc (.cells #[.int .i64 n, .map none, .map none] 55)) := fun W => new_any n W
  have B0 : Below w.heap.size w (((w.alloc (.cells #[.int .i64 x1, .int .i64 x2, .int .i64 xu, .int .i64 xs, .int .i64 xk, .int .i64 xh, .int .i64 xn, .string xt, .int .i64 xq] 29)).alloc (.cells #[.int .i64 cu, .int .i64 cs, .int .i64 ck, .int .i64 ch, .int .i64 cn, .string ct] 24)).alloc (.cells #[.int .i64 j1, .int .i64 j2] 26)) := ((((Below.refl _ _).alloc (Nat.le_refl _) _).alloc (by first | (simp; done) | (simp; omega)) _).alloc (by first | (simp; done) | (simp; omega)) _)
  have Z0 : (((w.alloc (.cells #[.int .i64 x1, .int .i64 x2, .int .i64 xu, .int .i64 xs, .int .i64 xk, .int .i64 xh, .int .i64 xn, .string xt, .int .i64 xq] 29)).alloc (.cells #[.int .i64 cu, .int .i64 cs, .int .i64 ck, .int .i64 ch, .int .i64 cn, .string ct] 24)).alloc (.cells #[.int .i64 j1, .int .i64 j2] 26)).heap.size = w.heap.size + 1 + 1 + 1 := by simp
  have Dx0 : Nb (((w.alloc (.cells #[.int .i64 x1, .int .i64 x2, .int .i64 xu, .int .i64 xs, .int .i64 xk, .int .i64 xh, .int .i64 xn, .string xt, .int .i64 xq] 29)).alloc (.cells #[.int .i64 cu, .int .i64 cs, .int .i64 ck, .int .i64 ch, .int .i64 cn, .string ct] 24)).alloc (.cells #[.int .i64 j1, .int .i64 j2] 26)) (w.heap.size) ⟨(x1, x2), ⟨xu, xs, xk, xh, xn, xt⟩, xq⟩ := by
    have h1 := nb_new w ⟨(x1, x2), ⟨xu, xs, xk, xh, xn, xt⟩, xq⟩
    exact ((h1.on ((Below.refl _ _).alloc (Nat.le_refl _) _) (by first | (simp; done) | (simp; omega))).on ((Below.refl _ _).alloc (Nat.le_refl _) _) (by first | (simp; done) | (simp; omega)))
  have Dc0 : Cb (((w.alloc (.cells #[.int .i64 x1, .int .i64 x2, .int .i64 xu, .int .i64 xs, .int .i64 xk, .int .i64 xh, .int .i64 xn, .string xt, .int .i64 xq] 29)).alloc (.cells #[.int .i64 cu, .int .i64 cs, .int .i64 ck, .int .i64 ch, .int .i64 cn, .string ct] 24)).alloc (.cells #[.int .i64 j1, .int .i64 j2] 26)) (w.heap.size + 1) cu cs ck ch cn ct := by
    have h1 := cb_new (w.alloc (.cells #[.int .i64 x1, .int .i64 x2, .int .i64 xu, .int .i64 xs, .int .i64 xk, .int .i64 xh, .int .i64 xn, .string xt, .int .i64 xq] 29)) cu cs ck ch cn ct
    rw [show (w.alloc (.cells #[.int .i64 x1, .int .i64 x2, .int .i64 xu, .int .i64 xs, .int .i64 xk, .int .i64 xh, .int .i64 xn, .string xt, .int .i64 xq] 29)).heap.size = w.heap.size + 1 by simp] at h1
    exact (h1.on ((Below.refl _ _).alloc (Nat.le_refl _) _) (by first | (simp; done) | (simp; omega)))
  have Dj0 : At.Ib (((w.alloc (.cells #[.int .i64 x1, .int .i64 x2, .int .i64 xu, .int .i64 xs, .int .i64 xk, .int .i64 xh, .int .i64 xn, .string xt, .int .i64 xq] 29)).alloc (.cells #[.int .i64 cu, .int .i64 cs, .int .i64 ck, .int .i64 ch, .int .i64 cn, .string ct] 24)).alloc (.cells #[.int .i64 j1, .int .i64 j2] 26)) (w.heap.size + 1 + 1) j1 j2 := by
    have h1 := At.ib_new ((w.alloc (.cells #[.int .i64 x1, .int .i64 x2, .int .i64 xu, .int .i64 xs, .int .i64 xk, .int .i64 xh, .int .i64 xn, .string xt, .int .i64 xq] 29)).alloc (.cells #[.int .i64 cu, .int .i64 cs, .int .i64 ck, .int .i64 ch, .int .i64 cn, .string ct] 24)) j1 j2
    rw [show ((w.alloc (.cells #[.int .i64 x1, .int .i64 x2, .int .i64 xu, .int .i64 xs, .int .i64 xk, .int .i64 xh, .int .i64 xn, .string xt, .int .i64 xq] 29)).alloc (.cells #[.int .i64 cu, .int .i64 cs, .int .i64 ck, .int .i64 ch, .int .i64 cn, .string ct] 24)).heap.size = w.heap.size + 1 + 1 by simp] at h1
    exact h1
  have N0 := hN.on B0
  go_enter Tryd.func5, Tryd.ntmps5
  go_wp2_with fail
  generalize (((w.alloc (.cells #[.int .i64 x1, .int .i64 x2, .int .i64 xu, .int .i64 xs, .int .i64 xk, .int .i64 xh, .int .i64 xn, .string xt, .int .i64 xq] 29)).alloc (.cells #[.int .i64 cu, .int .i64 cs, .int .i64 ck, .int .i64 ch, .int .i64 cn, .string ct] 24)).alloc (.cells #[.int .i64 j1, .int .i64 j2] 26)) = W0 at *
  refine (awake_any W0 N0).mono ?_
  rintro e W1 ⟨rfl, B1⟩
  have z1 := B1.size
  have N1 := N0.on B1
  have Dx1 := Dx0.on B1 (by omega)
  have Dc1 := Dc0.on B1 (by omega)
  have Dj1 := Dj0.on B1 (by omega)
  have BE := B0.trans (B1.mono (by omega))
  clear Dx0 Dc0 Dj0
  clear B1 B0 N0
  go_wp2_with fail
  refine (H13 _).out.mono ?_
  rintro e W2 ⟨rfl, rfl⟩
  have BN : Below W1.heap.size W1 (W1.alloc (.cells #[.int .i64 n, .map none, .map none] 55)) := (Below.refl _ _).alloc (Nat.le_refl _) _
  have BE2 := BE.trans (BN.mono BE.size)
  go_wp2
  go_ret
  exact ⟨rfl, BE2⟩

set_option maxHeartbeats 4000000 in
theorem rest (N : Nat) (A : Option Addr) (cp : Nat) (l : List Kn) (x1 x2 xu xs xk xh xn xq : Int) (xt : ByteArray) (cu cs ck ch cn : Int) (ct : ByteArray) (j1 j2 : Int) (n : Int) (w : World) (hN : Nd w) (hl : ¬ (60 : Int) < (l.length : Int)) (hn1 : ¬ n < 1) (hn7 : ¬ 7 < n) (hn : am n = (N : Int)) (h7 : N ≤ 7) (hs : Ns w w.heap.size A l) (hlow : ∀ k ∈ l, -9223372036854775808 ≤ k.q) (hqa : -9223372036854775808 ≤ xq) : Calls Tryd.prog 5 #[.slice A l.length cp, (.agg #[.int .i64 x1, .int .i64 x2, .int .i64 xu, .int .i64 xs, .int .i64 xk, .int .i64 xh, .int .i64 xn, .string xt, .int .i64 xq]), (cv cu cs ck ch cn ct), (.agg #[.int .i64 j1, .int .i64 j2]), .int .i64 n] w (UpPost w) := by
  have H13 : ∀ W, Hid (Calls Tryd.prog 13 #[.int .i64 n] W fun e w' => e = .returned (.pointer (some ⟨W.heap.size, 0, none⟩)) ∧ w' = W.alloc (.cells #[.int .i64 n, .map none, .map none] 55)) := fun W => new_any n W
  have B0 : Below w.heap.size w (((w.alloc (.cells #[.int .i64 x1, .int .i64 x2, .int .i64 xu, .int .i64 xs, .int .i64 xk, .int .i64 xh, .int .i64 xn, .string xt, .int .i64 xq] 29)).alloc (.cells #[.int .i64 cu, .int .i64 cs, .int .i64 ck, .int .i64 ch, .int .i64 cn, .string ct] 24)).alloc (.cells #[.int .i64 j1, .int .i64 j2] 26)) := ((((Below.refl _ _).alloc (Nat.le_refl _) _).alloc (by first | (simp; done) | (simp; omega)) _).alloc (by first | (simp; done) | (simp; omega)) _)
  have Z0 : (((w.alloc (.cells #[.int .i64 x1, .int .i64 x2, .int .i64 xu, .int .i64 xs, .int .i64 xk, .int .i64 xh, .int .i64 xn, .string xt, .int .i64 xq] 29)).alloc (.cells #[.int .i64 cu, .int .i64 cs, .int .i64 ck, .int .i64 ch, .int .i64 cn, .string ct] 24)).alloc (.cells #[.int .i64 j1, .int .i64 j2] 26)).heap.size = w.heap.size + 1 + 1 + 1 := by simp
  have Dx0 : Nb (((w.alloc (.cells #[.int .i64 x1, .int .i64 x2, .int .i64 xu, .int .i64 xs, .int .i64 xk, .int .i64 xh, .int .i64 xn, .string xt, .int .i64 xq] 29)).alloc (.cells #[.int .i64 cu, .int .i64 cs, .int .i64 ck, .int .i64 ch, .int .i64 cn, .string ct] 24)).alloc (.cells #[.int .i64 j1, .int .i64 j2] 26)) (w.heap.size) ⟨(x1, x2), ⟨xu, xs, xk, xh, xn, xt⟩, xq⟩ := by
    have h1 := nb_new w ⟨(x1, x2), ⟨xu, xs, xk, xh, xn, xt⟩, xq⟩
    exact ((h1.on ((Below.refl _ _).alloc (Nat.le_refl _) _) (by first | (simp; done) | (simp; omega))).on ((Below.refl _ _).alloc (Nat.le_refl _) _) (by first | (simp; done) | (simp; omega)))
  have Dc0 : Cb (((w.alloc (.cells #[.int .i64 x1, .int .i64 x2, .int .i64 xu, .int .i64 xs, .int .i64 xk, .int .i64 xh, .int .i64 xn, .string xt, .int .i64 xq] 29)).alloc (.cells #[.int .i64 cu, .int .i64 cs, .int .i64 ck, .int .i64 ch, .int .i64 cn, .string ct] 24)).alloc (.cells #[.int .i64 j1, .int .i64 j2] 26)) (w.heap.size + 1) cu cs ck ch cn ct := by
    have h1 := cb_new (w.alloc (.cells #[.int .i64 x1, .int .i64 x2, .int .i64 xu, .int .i64 xs, .int .i64 xk, .int .i64 xh, .int .i64 xn, .string xt, .int .i64 xq] 29)) cu cs ck ch cn ct
    rw [show (w.alloc (.cells #[.int .i64 x1, .int .i64 x2, .int .i64 xu, .int .i64 xs, .int .i64 xk, .int .i64 xh, .int .i64 xn, .string xt, .int .i64 xq] 29)).heap.size = w.heap.size + 1 by simp] at h1
    exact (h1.on ((Below.refl _ _).alloc (Nat.le_refl _) _) (by first | (simp; done) | (simp; omega)))
  have Dj0 : At.Ib (((w.alloc (.cells #[.int .i64 x1, .int .i64 x2, .int .i64 xu, .int .i64 xs, .int .i64 xk, .int .i64 xh, .int .i64 xn, .string xt, .int .i64 xq] 29)).alloc (.cells #[.int .i64 cu, .int .i64 cs, .int .i64 ck, .int .i64 ch, .int .i64 cn, .string ct] 24)).alloc (.cells #[.int .i64 j1, .int .i64 j2] 26)) (w.heap.size + 1 + 1) j1 j2 := by
    have h1 := At.ib_new ((w.alloc (.cells #[.int .i64 x1, .int .i64 x2, .int .i64 xu, .int .i64 xs, .int .i64 xk, .int .i64 xh, .int .i64 xn, .string xt, .int .i64 xq] 29)).alloc (.cells #[.int .i64 cu, .int .i64 cs, .int .i64 ck, .int .i64 ch, .int .i64 cn, .string ct] 24)) j1 j2
    rw [show ((w.alloc (.cells #[.int .i64 x1, .int .i64 x2, .int .i64 xu, .int .i64 xs, .int .i64 xk, .int .i64 xh, .int .i64 xn, .string xt, .int .i64 xq] 29)).alloc (.cells #[.int .i64 cu, .int .i64 cs, .int .i64 ck, .int .i64 ch, .int .i64 cn, .string ct] 24)).heap.size = w.heap.size + 1 + 1 by simp] at h1
    exact h1
  have N0 := hN.on B0
  go_enter Tryd.func5, Tryd.ntmps5
  go_wp2_with fail
  generalize (((w.alloc (.cells #[.int .i64 x1, .int .i64 x2, .int .i64 xu, .int .i64 xs, .int .i64 xk, .int .i64 xh, .int .i64 xn, .string xt, .int .i64 xq] 29)).alloc (.cells #[.int .i64 cu, .int .i64 cs, .int .i64 ck, .int .i64 ch, .int .i64 cn, .string ct] 24)).alloc (.cells #[.int .i64 j1, .int .i64 j2] 26)) = W0 at *
  refine (awake_any W0 N0).mono ?_
  rintro e W1 ⟨rfl, B1⟩
  have z1 := B1.size
  have N1 := N0.on B1
  have Dx1 := Dx0.on B1 (by omega)
  have Dc1 := Dc0.on B1 (by omega)
  have Dj1 := Dj0.on B1 (by omega)
  have BE := B0.trans (B1.mono (by omega))
  clear Dx0 Dc0 Dj0
  clear B1 B0 N0
  go_wp2_with fail
  refine (H13 _).out.mono ?_
  rintro e W2 ⟨rfl, rfl⟩
  have BN : Below W1.heap.size W1 (W1.alloc (.cells #[.int .i64 n, .map none, .map none] 55)) := (Below.refl _ _).alloc (Nat.le_refl _) _
  have BE2 := BE.trans (BN.mono BE.size)
  have X2 := ix_new W1 n
  have N2 := N1.on BN
  have Dx2 := Dx1.on BN (by omega)
  have Dc2 := Dc1.on BN (by omega)
  have Dj2 := Dj1.on BN (by omega)
  have ZX : W1.heap.size < (W1.alloc (.cells #[.int .i64 n, .map none, .map none] 55)).heap.size := by simp
  have HS := Lib.hid ((hs.up BE).below BN (Nat.le_refl _))
  have HLW := Lib.hid hlow
  have hl' : l.length ≤ 60 := by omega
  have hw0 : 1 ≤ w.heap.size := hN.pos
  have hxw : w.heap.size + 1 + 1 < W1.heap.size := by omega
  clear hs hlow H13 Dc1 Dj1 Dx1 N1 BN BE hN
  go_wp2_with fail
  generalize (W1.alloc (.cells #[.int .i64 n, .map none, .map none] 55)) = W2 at *
  generalize W1.heap.size = X at *
  have hX1 : 1 ≤ X := by omega
  have BEX := Lib.hid BE2
  go_loopw [13] (fun tt wr => ∃ (p : Nat) (K : List Kn) (O : Nat → Prop), p ≤ l.length ∧ tt = .int .i64 (p : Int) ∧ Ix wr X n K O ∧ (∀ r, O r → X ≤ r) ∧ Below X W2 wr) (fun tt _ => 61 - (intOf tt).toNat)
  case atStart => exact ⟨0, [], _, Nat.zero_le _, rfl, X2, (fun r h => by omega), Below.refl _ _⟩
  case round =>
    obtain ⟨p, K, O, hp, rfl, hX, hOX, hB⟩ := hrel
    have BXv := BE2.trans (hB.mono (show w.heap.size ≤ X by omega))
    have HX := Lib.hid hX
    have HOX := Lib.hid hOX
    have zX := hX.lt X hX.own
    have Ndr := N2.below hB (by omega)
    clear hX hOX X2
    by_cases hlp : p < l.length
    · have hlpi : (p : Int) < (l.length : Int) := by omega
      have hp0 : (0 : Int) ≤ (p : Int) := by omega
      rcases (HS.out.below hB (Nat.le_refl _)) with rfl | ⟨b, off, rfl, hb', hc⟩
      · simp at hlp
      have hcell := hc p l[p] (List.getElem?_eq_getElem hlp)
      have hlw := HLW.out l[p] (List.getElem_mem hlp)
      have HP := Lib.hid (put_any X n K O l[p] wr.drew Ndr (HX.out.on ((Below.refl _ _).drew)) (fun r h => by have := HOX.out r h; omega) hlw)
      have hbw : b < wr.heap.size := by omega
      clear hc
      generalize l[p] = v at *
      obtain ⟨⟨v1, v2⟩, ⟨vu, vs, vk, vh, vn, vt⟩, vq⟩ := v
      obtain ⟨e0, e1, e2, e3, e4, e5, e6, e7, e8⟩ := id hcell
      obtain ⟨x0', x1', _⟩ := Dx2.on hB (by omega)
      by_cases hsf : (v1, v2) = (x1, x2)
      · have hsb := same_yes hsf
        go_wp2_with fail
        go_region
        by_cases hq : 1099511627776 < vq
        · go_wp2
          go_ret
          exact ⟨rfl, BXv.drew⟩
        · go_wp2
          go_roundw
          case rel => exact ⟨p + 1, K, O, by omega, by go_num, HX.out.on ((Below.refl _ _).drew), HOX.out, hB.drew⟩
          case measure => simp [intOf]; omega
      · have hsb := same_no hsf
        go_wp2_with fail
        go_region
        go_wp2_with fail
        clear e0 e1 e2 e3 e4 e5 e6 e7 e8 x0' x1'
        refine HP.out.mono ?_
        rintro e Va ⟨rfl, O', Xa, oa, hsa⟩
        have Ba : Below X wr.drew Va := oa.below HOX.out (by show X ≤ wr.heap.size; omega)
        have hBa : Below X W2 Va := (hB.drew).trans Ba
        have hca : Nr Va b (off + p * 9) ⟨(v1, v2), ⟨vu, vs, vk, vh, vn, vt⟩, vq⟩ := hcell.of (Ba.block b hb')
        have hba : b < Va.heap.size := by have := Ba.size; have h3 : wr.drew.heap.size = wr.heap.size := rfl; omega
        have HOa : Hid (∀ r, O' r → X ≤ r) := fun r h => (hsa r h).elim (HOX.out r) (fun h => by have h3 : wr.drew.heap.size = wr.heap.size := rfl; omega)
        have BXa := BE2.trans (hBa.mono (show w.heap.size ≤ X by omega))
        obtain ⟨e0, e1, e2, e3, e4, e5, e6, e7, e8⟩ := id hca
        clear HP hsa oa Ba hcell
        by_cases hq : 1099511627776 < vq
        · go_wp2
          go_ret
          exact ⟨rfl, BXa⟩
        · go_wp2
          go_roundw
          case rel => exact ⟨p + 1, _, O', by omega, by go_num, Xa, HOa.out, hBa⟩
          case measure => simp [intOf]; omega
    · obtain rfl : p = l.length := by omega
      have HP := Lib.hid (put_any X n K O ⟨(x1, x2), ⟨xu, xs, xk, xh, xn, xt⟩, xq⟩ wr Ndr HX.out (fun r h => by have := HOX.out r h; omega) hqa)
      have Dxw := Dx2.on hB (by omega)
      obtain ⟨e0, e1, e2, e3, e4, e5, e6, e7, e8⟩ := id Dxw
      clear HS HLW
      go_wp2_with fail
      clear e0 e1 e2 e3 e4 e5 e6 e7 e8 Dxw BXv
      refine HP.out.mono ?_
      rintro e V ⟨rfl, O', XV, oV, hsV⟩
      have BV : Below X W2 V := hB.trans (oV.below HOX.out (by omega))
      have BXv := BE2.trans (BV.mono (show w.heap.size ≤ X by omega))
      have DxV := Dx2.on BV (by omega)
      have DcV := Dc2.on BV (by omega)
      have DjV := Dj2.on BV (by omega)
      have NdV := N2.below BV (by omega)
      obtain ⟨e0, e1, e2, e3, e4, e5, e6, e7, e8⟩ := id DxV
      obtain ⟨gj0, gj1⟩ := id DjV
      obtain ⟨gc0, gc1, gc2, gc3, gc4, gc5⟩ := id DcV
      have HXV := Lib.hid XV
      have zV := XV.lt X XV.own
      clear HP oV hsV XV HX HOX Ndr hB
      by_cases h1 : 1 ≤ x1
      · by_cases h2 : x1 ≤ n
        · by_cases h3 : 1 ≤ x2
          · by_cases h4 : x2 ≤ 1048576
            · have hmb : Hid (mb (x1, x2) (am n) = true) := mb_iff.2 ⟨h1, by rw [am_in (by omega) (by omega)]; exact h2, h3, h4⟩
              by_cases hsf : (x1, x2) = (j1, j2)
              · have hsb := same_yes hsf
                go_wp2
                go_ret
                exact ⟨rfl, BXv⟩
              · have hsb := same_no hsf
                have HI := Lib.hid (itf_any ⟨xu, xs, xk, xh, xn, xt⟩ ⟨cu, cs, ck, ch, cn, ct⟩ V NdV)
                go_wp2_with fail
                clear e0 e1 e2 e3 e4 e5 e6 e7 e8 gj0 gj1 gc0 gc1 gc2 gc3 gc4 gc5
                refine HI.out.mono ?_
                rintro e V1 ⟨rfl, B1⟩
                have z1' := B1.size
                have Dx1 := DxV.on B1 (by omega)
                have Dc1 := DcV.on B1 (by omega)
                have Dj1 := DjV.on B1 (by omega)
                have X1 := Lib.hid (HXV.out.on B1)
                have Nd1 := NdV.on B1
                have BXv := BXv.trans (B1.mono (by omega))
                obtain ⟨e0, e1, e2, e3, e4, e5, e6, e7, e8⟩ := id Dx1
                obtain ⟨gj0, gj1⟩ := id Dj1
                obtain ⟨gc0, gc1, gc2, gc3, gc4, gc5⟩ := id Dc1
                generalize hib : itf ⟨xu, xs, xk, xh, xn, xt⟩ ⟨cu, cs, ck, ch, cn, ct⟩ = ib at *
                have HIB := Lib.hid hib
                clear hib HI HXV B1 DxV DcV DjV
                cases ib
                · go_wp2
                  go_ret
                  exact ⟨rfl, BXv⟩
                · by_cases hq : 1099511627776 < xq
                  · go_wp2
                    go_ret
                    exact ⟨rfl, BXv⟩
                  · have HAt : Hid (Calls Tryd.prog 16 #[.pointer (some ⟨X, 0, none⟩), (cv cu cs ck ch cn ct), (.agg #[.int .i64 j1, .int .i64 j2])] V1 (AtP V1 (Pq (am n) (pt (am n) K ⟨(x1, x2), ⟨xu, xs, xk, xh, xn, xt⟩, xq⟩) ⟨cu, cs, ck, ch, cn, ct⟩ (j1, j2)) N)) := attr_any X N n _ O' ⟨cu, cs, ck, ch, cn, ct⟩ (j1, j2) V1 Nd1 X1.out hn h7
                    have HPQ : Hid (Pq (am n) (pt (am n) K ⟨(x1, x2), ⟨xu, xs, xk, xh, xn, xt⟩, xq⟩) ⟨cu, cs, ck, ch, cn, ct⟩ (j1, j2) (x1, x2) xq) := ⟨⟨(x1, x2), ⟨xu, xs, xk, xh, xn, xt⟩, xq⟩, by rw [pt_yes hmb.out]; simp, hmb.out, hsf, HIB.out, rfl, rfl⟩
                    go_wp2_with fail
                    clear e0 e1 e2 e3 e4 e5 e6 e7 e8 gj0 gj1 gc0 gc1 gc2 gc3 gc4 gc5
                    refine HAt.out.mono ?_
                    rintro e V2 ⟨sa, da, ga, rfl, Ra, hga, B2, Ia⟩
                    have z2' := B2.size
                    obtain ⟨hs1, hs2⟩ := Ia.sup _ _ HPQ.out
                    rw [sn_low (by omega)] at hs1
                    have hlen := Ia.len
                    have hgt : xq < sa := by omega
                    have BA : Below V2.heap.size V2 (V2.alloc (.cells #[.int .i64 sa, .slice (some ⟨ga, 0, none⟩) N N] 32)) := (Below.refl _ _).alloc (Nat.le_refl _) _
                    have PA := At.ax_new V2 sa (some ⟨ga, 0, none⟩) N N
                    have Ra3 := Ra.old (.cells #[.int .i64 sa, .slice (some ⟨ga, 0, none⟩) N N] 32)
                    have hwt : At.wt da x1 x2 = true := At.wt_iff.2 ⟨h3, by rw [At.dp_in h1]; exact hs2⟩
                    have HWt : Hid (Calls Tryd.prog 19 #[.agg #[.int .i64 sa, .slice (some ⟨ga, 0, none⟩) N N], .agg #[.int .i64 x1, .int .i64 x2]] (V2.alloc (.cells #[.int .i64 sa, .slice (some ⟨ga, 0, none⟩) N N] 32)) (BoolPost (V2.alloc (.cells #[.int .i64 sa, .slice (some ⟨ga, 0, none⟩) N N] 32)) true)) := by
                      have h5 := At.waits_any sa x1 x2 (some ⟨ga, 0, none⟩) da.length da _ Ra3.sl (by omega)
                      rw [hwt, hlen] at h5
                      exact h5
                    have Dx2' := Dx1.on B2 (by omega)
                    have yx : w.heap.size < V2.heap.size := by omega
                    have BX3 := BXv.trans ((B2.trans (BA.mono z2')).mono (by omega))
                    obtain ⟨e0, e1, e2, e3, e4, e5, e6, e7, e8⟩ := id Dx2'
                    have NB3 := Dx2'.on BA (by omega)
                    clear Ia hs2 Ra Ra3 hwt B2 BA HAt HPQ hlen Dx1 Dc1 Dj1
                    go_wp2_with fail
                    clear e0 e1 e2 e3 e4 e5 e6 e7 e8
                    generalize (V2.alloc (.cells #[.int .i64 sa, .slice (some ⟨ga, 0, none⟩) N N] 32)) = V3 at *
                    generalize V2.heap.size = pa at *
                    refine HWt.out.mono ?_
                    rintro e V4 ⟨rfl, B4⟩
                    have zp := PA.lt
                    have Dx4 := (show Nb V3 w.heap.size ⟨(x1, x2), ⟨xu, xs, xk, xh, xn, xt⟩, xq⟩ from NB3).on B4 (by omega)
                    obtain ⟨a0, a1⟩ := (PA.on B4 zp).rb
                    obtain ⟨e0, e1, e2, e3, e4, e5, e6, e7, e8⟩ := id Dx4
                    have BX4 := BX3.trans (B4.mono (by omega))
                    go_wp2
                    go_ret
                    exact ⟨rfl, BX4⟩
            · go_wp2
              go_ret
              exact ⟨rfl, BXv⟩
          · go_wp2
            go_ret
            exact ⟨rfl, BXv⟩
        · go_wp2
          go_ret
          exact ⟨rfl, BXv⟩
      · go_wp2
        go_ret
        exact ⟨rfl, BXv⟩

theorem walk (A : Option Addr) (cp : Nat) (l : List Kn) (a : Kn) (c : Cd) (j : Int × Int) (n : Int) (w : World) (hN : Nd w) (hs : Ns w w.heap.size A l) (hlow : ∀ k ∈ l, -9223372036854775808 ≤ k.q) (hqa : -9223372036854775808 ≤ a.q) (hw : (Lit.int .i64 n).wf = true) : Calls Tryd.prog 5 #[.slice A l.length cp, nv a, cv c.u c.s c.k c.h c.n c.t, iv j, .int .i64 n] w (UpPost w) := by
  obtain ⟨N, hn, _, h7⟩ := am_nat n
  by_cases hl : (60 : Int) < (l.length : Int)
  · exact early1 A cp l _ _ _ _ _ _ _ _ _ _ _ _ _ _ _ _ _ n w hN hl
  · by_cases h1 : n < 1
    · exact early2 A cp l _ _ _ _ _ _ _ _ _ _ _ _ _ _ _ _ _ n w hN hl h1
    · by_cases h2 : 7 < n
      · exact early3 A cp l _ _ _ _ _ _ _ _ _ _ _ _ _ _ _ _ _ n w hN hl h1 h2
      · exact rest N A cp l _ _ _ _ _ _ _ _ _ _ _ _ _ _ _ _ _ n w hN hl h1 h2 hn h7 hs hlow hqa

set_option maxRecDepth 100000 in
theorem lifted (os : Os) (started : os.Started) (H : Type) (enc : TypeId × Value → H) :
    ReturnsInHanded {} Tryd.checked os 5 .any (fun w args => (Rows.indexWaitsSpec.pre enc Tryd.prog Tryd.f5 [] false w args ∧ laidMetH Tryd.prog laid4 w) ∧ sizedMet enc Tryd.prog Tryd.f5 (OpenSpec.ofChange Rows.indexWaitsSpec) false w args)
      (Rows.indexWaitsSpec.post enc Tryd.prog Tryd.f5 false true false false) := by
  refine returnsInHanded_of_change_and (C := Tryd.checked) (X := fun w _ => laidMetH Tryd.prog laid4 w) (fun _ _ _ hh h => h.of_heap hh) own started (by kernel_rfl) Tryd.func5
    (ChangeSpec.witness_shaped (enc := enc) (C := Tryd.checked) (os := os) (X := fun w _ => laidMetH Tryd.prog laid4 w) false (World.doorLaid Tryd.prog 18 os) #[.slice none 0 0, .agg #[.int .i64 0, .int .i64 0, .int .i64 0, .int .i64 0, .int .i64 0, .int .i64 0, .int .i64 0, .string ⟨#[]⟩, .int .i64 0], .agg #[.int .i64 0, .int .i64 0, .int .i64 0, .int .i64 0, .int .i64 0, .string ⟨#[]⟩], .agg #[.int .i64 0, .int .i64 0], .int .i64 0] 8 rfl (World.shaped_of_RefB (by kernel_rfl) (by kernel_rfl)) (by kernel_rfl) (by kernel_rfl) (by kernel_rfl) (door_met os _)) ?_
  intro W base args ds gs before hval0 hW _ _ hL _
  have hN := nd_of_laid hL
  have hval : ∀ (j : Nat) t v, Tryd.f5.params[j]? = some t → args[j]? = some v → Value.okWide Tryd.prog W .any base t v := hval0
  have hW' := hW
  obtain ⟨p, q, hA0, hV, rfl, hfz, hnd⟩ := hW
  have hA : DataW.TrodAll enc Tryd.prog W 0 (fun _ => true) true Tryd.f5.params.toList args.toList ds p := hA0
  rw [Tryd.params5] at hA hval
  obtain ⟨v0, vs0, d0, ds0, p0, q0, hargs, rfl, rfl, h0, r0⟩ := trodAll_cons hA
  obtain ⟨v1, vs1, d1, ds1, p1, q1, rfl, rfl, rfl, h1, r1⟩ := trodAll_cons r0
  obtain ⟨v2, vs2, d2, ds2, p2, q2, rfl, rfl, rfl, h2, r2⟩ := trodAll_cons r1
  obtain ⟨v3, vs3, d3, ds3, p3, q3, rfl, rfl, rfl, h3, r3⟩ := trodAll_cons r2
  obtain ⟨v4, vs4, d4, ds4, p4, q4, rfl, rfl, rfl, h4, r4⟩ := trodAll_cons r3
  obtain ⟨rfl, rfl, rfl⟩ := trodAll_nil r4
  obtain rfl : args = #[v0, v1, v2, v3, v4] := by cases args; simp_all
  obtain ⟨rfl, rfl⟩ := trodVars_none hV
  have k0' := h0
  have lt0 : ∀ x ∈ p0, x.block < W.heap.size := by obtain ⟨m, hm⟩ := k0'; exact DataW.trod_lt m _ _ _ hm
  obtain ⟨A0, c0, l0, rfl, s0', m0, y0⟩ := open_kns (hval 0 22 v0 rfl rfl) h0
  have k1' := h1
  have lt1 : ∀ x ∈ p1, x.block < W.heap.size := by obtain ⟨m, hm⟩ := k1'; exact DataW.trod_lt m _ _ _ hm
  obtain ⟨x1, rfl, q1, r1'⟩ := open_kn (hval 1 29 v1 rfl rfl) h1
  have k2' := h2
  have lt2 : ∀ x ∈ p2, x.block < W.heap.size := by obtain ⟨m, hm⟩ := k2'; exact DataW.trod_lt m _ _ _ hm
  obtain ⟨x2, rfl⟩ := open_cmd (hval 2 24 v2 rfl rfl) h2
  have k3' := h3
  have lt3 : ∀ x ∈ p3, x.block < W.heap.size := by obtain ⟨m, hm⟩ := k3'; exact DataW.trod_lt m _ _ _ hm
  obtain ⟨x3, rfl⟩ := open_inst (hval 3 26 v3 rfl rfl) h3
  obtain ⟨a4, rfl, rfl, rfl, w4⟩ := open_int Tryd.underlying3 (hval 4 3 v4 rfl rfl) h4
  clear hA0 hval0
  refine (walk A0 c0 l0 x1 x2 x3 a4 W hN s0' y0 q1   w4).mono fun e W' ⟨he, bel⟩ => ?_
  subst he
  exact ⟨_, rfl, _, _, _, [], _, [], hW', trodAll_mk1 (shut_bool Tryd.underlying4 _), (trodAll_cons_mk (Below.trod laidOut (by kernel_rfl) (of_decide_eq_true (by kernel_rfl)) k0' bel lt0) (trodAll_cons_mk (Below.trod laidOut (by kernel_rfl) (of_decide_eq_true (by kernel_rfl)) k1' bel lt1) (trodAll_cons_mk (Below.trod laidOut (by kernel_rfl) (of_decide_eq_true (by kernel_rfl)) k2' bel lt2) (trodAll_cons_mk (Below.trod laidOut (by kernel_rfl) (of_decide_eq_true (by kernel_rfl)) k3' bel lt3) (trodAll_cons_mk (shut_int Tryd.underlying3 w4) trodAll_mk0))))), rfl, bel.frame _, fun h => by cases h⟩

theorem over : Rows.IndexWaitsSaid :=
  OpenClaim.holds_of_wide 5 Tryd.f5 rfl rfl rfl rfl rfl rfl rfl ⟨rfl, rfl, rfl, rfl, rfl⟩ rfl rfl rfl rfl rfl (by kernel_rfl) Tryd.func5 (by kernel_rfl)
    (of_decide_eq_true (by kernel_rfl)) (by unfold Func.isWrapper; first | (rw [if_pos (by decide +kernel)]; kernel_rfl) | (rw [if_neg (by decide +kernel)]; exact ⟨rfl, rfl⟩))
    (fun os started H enc _ => lifted os started H enc)

theorem proved : Rows.IndexWaitsCardSaid :=
  Claim7.holds_tied_plain_at .later [] [.data] true (true, "ff0bb4375bea55efa16266bd5e425099be6e5092c0e69cdcc6c311bd18fe096f") false
    over (fun _ h => by cases h) (by kernel_rfl) (fun _ h => by cases h) indexWaits_row_tie rfl ⟨rfl, rfl⟩ (by kernel_rfl) rfl
    (fun f fn hf hfn => by
      obtain rfl : f = 5 := Option.some.inj ((show Tryd.prog.funcNamed "colloquy/colloquylaw08.IndexWaits" = some 5 by kernel_rfl).symm.trans hf) |>.symm
      obtain rfl : fn = Tryd.f5 := (Option.some.inj (Tryd.func5.symm.trans hfn)).symm
      exact ⟨by kernel_rfl, fun j t ht => by
        rw [Tryd.params5] at ht
        have hm : t ∈ [22, 29, 24, 26, 3] := by simpa using Array.mem_of_getElem? ht
        have hall : ([22, 29, 24, 26, 3].all fun u => !Tryd.prog.wantsStandIn u) = true := by kernel_rfl
        exact (show Tryd.prog.wantsStandIn t = false by simpa using List.all_eq_true.1 hall t hm)⟩)
    (by kernel_rfl)
#print axioms proved
end Go.Proofs.YtmeklhlojogdnaaDoor.indexWaits
