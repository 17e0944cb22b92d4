/-
  What is put in the place of what was known takes that away, as if that had not been: IndexPlace answers true whatever the list, the two that are known, the command, the instance and the number; they read as they did. Conditions: none beyond the card's own (the table of what kinds need reads as its initialiser lays it).
-/
import Derived.Test.YtmeklhlojogdnaaDoorAwk
import Derived.Test.YtmeklhlojogdnaaDoorOfr
import Derived.Test.YtmeklhlojogdnaaDoorAtRwi
import Derived.Test.YtmeklhlojogdnaaDoorAtSa
import Derived.Test.YtmeklhlojogdnaaDoorRpt
import Derived.Test.YtmeklhlojogdnaaDoorTwo
import Derived.Test.YtmeklhlojogdnaaDoorCards
import Derived.Test.YtmeklhlojogdnaaDoorTie
import Derived.SevenTiedAt
namespace Go.Proofs.YtmeklhlojogdnaaDoor.indexPlace
open Go.ChangeShapes Go.WideShapes Go.ChangeAt Go.RowKit Go.Joins
set_option linter.unusedVariables false

attribute [local go_sem ↓ high] eq26 guard26 neq26 guard26n

theorem off_cb {O : Nat → Prop} {w w' : World} {B : Nat} {u s k h n : Int} {t : ByteArray} (hc : Cb w B u s k h n t) (hb : Off O w w') (hB : ¬ O B) : Cb w' B u s k h n t := by
  have hlt : B < w.heap.size := World.block_lt_of_cell? w _ hc.1
  have he : ∀ j, w'.cell? ⟨B, j, none⟩ = w.cell? ⟨B, j, none⟩ := fun j => World.cell?_of_block (hb.block B hlt hB)
  obtain ⟨c0, c1, c2, c3, c4, c5⟩ := hc
  exact ⟨(he 0).trans c0, (he 1).trans c1, (he 2).trans c2, (he 3).trans c3, (he 4).trans c4, (he 5).trans c5⟩
theorem keepT {D X Y : Nat} {n : Int} {Lx Ly : List Kn} {Ox Oy : Nat → Prop} {S v v' : World} {B C : Nat} {u s k h m j1 j2 : Int} {t : ByteArray} (hB : B < D) (hC : C < D) (hS : Cb v B u s k h m t ∧ At.Ib v C j1 j2 ∧ Two D X Y n Lx Ly Ox Oy S v) (hb : Below v.heap.size v v') : Cb v' B u s k h m t ∧ At.Ib v' C j1 j2 ∧ Two D X Y n Lx Ly Ox Oy S v' :=
  ⟨hS.1.on hb hS.1.lt, hS.2.1.on hb (World.block_lt_of_cell? v _ hS.2.1.1), hS.2.2.on hb⟩
theorem keepTd {D X Y : Nat} {n : Int} {Lx Ly : List Kn} {Ox Oy : Nat → Prop} {S v : World} {B C : Nat} {u s k h m j1 j2 : Int} {t : ByteArray} (hS : Cb v B u s k h m t ∧ At.Ib v C j1 j2 ∧ Two D X Y n Lx Ly Ox Oy S v) : Cb v.drew B u s k h m t ∧ At.Ib v.drew C j1 j2 ∧ Two D X Y n Lx Ly Ox Oy S v.drew :=
  ⟨hS.1, hS.2.1, hS.2.2.on ((Below.refl _ _).drew)⟩

theorem rx_up {w w' : World} {g : Nat} {ys : List Int} (h : At.Rx w g ys) (hb : Below w.heap.size w w') : At.Rx w' g ys := (hb.block g h.lt).trans h

theorem early1 (A : Option Addr) (cp : Nat) (l : List Kn) (x1 x2 xu xs xk xh xn xq : Int) (xt : ByteArray) (y1 y2 yu ys yk yh yn yq : Int) (yt : ByteArray) (cu cs ck ch cn : Int) (ct : ByteArray) (j1 j2 : Int) (n : Int) (w : World) (hN : Nd w) (hl : (60 : Int) < (l.length : Int)) : Calls Tryd.prog 8 #[.slice A l.length cp, (.agg #[.int .i64 x1, .int .i64 x2, .int .i64 xu, .int .i64 xs, .int .i64 xk, .int .i64 xh, .int .i64 xn, .string xt, .int .i64 xq]), (.agg #[.int .i64 y1, .int .i64 y2, .int .i64 yu, .int .i64 ys, .int .i64 yk, .int .i64 yh, .int .i64 yn, .string yt, .int .i64 yq]), (cv cu cs ck ch cn ct), (.agg #[.int .i64 j1, .int .i64 j2]), .int .i64 n] w (UpPost w) := by
  have H13 : ∀ W, Hid (Calls Tryd.prog 13 #[.int .i64 n] W fun e w' => e = .returned (.pointer (some ⟨W.heap.size, 0, none⟩)) ∧ w' = W.alloc (.cells #[.int .i64 n, .map none, .map none] 55)) := fun W => new_any n W
  have B0 : Below w.heap.size w ((((w.alloc (.cells #[.int .i64 x1, .int .i64 x2, .int .i64 xu, .int .i64 xs, .int .i64 xk, .int .i64 xh, .int .i64 xn, .string xt, .int .i64 xq] 29)).alloc (.cells #[.int .i64 y1, .int .i64 y2, .int .i64 yu, .int .i64 ys, .int .i64 yk, .int .i64 yh, .int .i64 yn, .string yt, .int .i64 yq] 29)).alloc (.cells #[.int .i64 cu, .int .i64 cs, .int .i64 ck, .int .i64 ch, .int .i64 cn, .string ct] 24)).alloc (.cells #[.int .i64 j1, .int .i64 j2] 26)) := (((((Below.refl _ _).alloc (Nat.le_refl _) _).alloc (by first | (simp; done) | (simp; omega)) _).alloc (by first | (simp; done) | (simp; omega)) _).alloc (by first | (simp; done) | (simp; omega)) _)
  have Z0 : ((((w.alloc (.cells #[.int .i64 x1, .int .i64 x2, .int .i64 xu, .int .i64 xs, .int .i64 xk, .int .i64 xh, .int .i64 xn, .string xt, .int .i64 xq] 29)).alloc (.cells #[.int .i64 y1, .int .i64 y2, .int .i64 yu, .int .i64 ys, .int .i64 yk, .int .i64 yh, .int .i64 yn, .string yt, .int .i64 yq] 29)).alloc (.cells #[.int .i64 cu, .int .i64 cs, .int .i64 ck, .int .i64 ch, .int .i64 cn, .string ct] 24)).alloc (.cells #[.int .i64 j1, .int .i64 j2] 26)).heap.size = w.heap.size + 1 + 1 + 1 + 1 := by simp
  have Dx0 : Nb ((((w.alloc (.cells #[.int .i64 x1, .int .i64 x2, .int .i64 xu, .int .i64 xs, .int .i64 xk, .int .i64 xh, .int .i64 xn, .string xt, .int .i64 xq] 29)).alloc (.cells #[.int .i64 y1, .int .i64 y2, .int .i64 yu, .int .i64 ys, .int .i64 yk, .int .i64 yh, .int .i64 yn, .string yt, .int .i64 yq] 29)).alloc (.cells #[.int .i64 cu, .int .i64 cs, .int .i64 ck, .int .i64 ch, .int .i64 cn, .string ct] 24)).alloc (.cells #[.int .i64 j1, .int .i64 j2] 26)) (w.heap.size) ⟨(x1, x2), ⟨xu, xs, xk, xh, xn, xt⟩, xq⟩ := by
    have h1 := nb_new w ⟨(x1, x2), ⟨xu, xs, xk, xh, xn, xt⟩, xq⟩
    exact (((h1.on ((Below.refl _ _).alloc (Nat.le_refl _) _) (by first | (simp; done) | (simp; omega))).on ((Below.refl _ _).alloc (Nat.le_refl _) _) (by first | (simp; done) | (simp; omega))).on ((Below.refl _ _).alloc (Nat.le_refl _) _) (by first | (simp; done) | (simp; omega)))
  have Dy0 : Nb ((((w.alloc (.cells #[.int .i64 x1, .int .i64 x2, .int .i64 xu, .int .i64 xs, .int .i64 xk, .int .i64 xh, .int .i64 xn, .string xt, .int .i64 xq] 29)).alloc (.cells #[.int .i64 y1, .int .i64 y2, .int .i64 yu, .int .i64 ys, .int .i64 yk, .int .i64 yh, .int .i64 yn, .string yt, .int .i64 yq] 29)).alloc (.cells #[.int .i64 cu, .int .i64 cs, .int .i64 ck, .int .i64 ch, .int .i64 cn, .string ct] 24)).alloc (.cells #[.int .i64 j1, .int .i64 j2] 26)) (w.heap.size + 1) ⟨(y1, y2), ⟨yu, ys, yk, yh, yn, yt⟩, yq⟩ := by
    have h1 := nb_new (w.alloc (.cells #[.int .i64 x1, .int .i64 x2, .int .i64 xu, .int .i64 xs, .int .i64 xk, .int .i64 xh, .int .i64 xn, .string xt, .int .i64 xq] 29)) ⟨(y1, y2), ⟨yu, ys, yk, yh, yn, yt⟩, yq⟩
    rw [show (w.alloc (.cells #[.int .i64 x1, .int .i64 x2, .int .i64 xu, .int .i64 xs, .int .i64 xk, .int .i64 xh, .int .i64 xn, .string xt, .int .i64 xq] 29)).heap.size = w.heap.size + 1 by simp] at h1
    exact ((h1.on ((Below.refl _ _).alloc (Nat.le_refl _) _) (by first | (simp; done) | (simp; omega))).on ((Below.refl _ _).alloc (Nat.le_refl _) _) (by first | (simp; done) | (simp; omega)))
  have Dc0 : Cb ((((w.alloc (.cells #[.int .i64 x1, .int .i64 x2, .int .i64 xu, .int .i64 xs, .int .i64 xk, .int .i64 xh, .int .i64 xn, .string xt, .int .i64 xq] 29)).alloc (.cells #[.int .i64 y1, .int .i64 y2, .int .i64 yu, .int .i64 ys, .int .i64 yk, .int .i64 yh, .int .i64 yn, .string yt, .int .i64 yq] 29)).alloc (.cells #[.int .i64 cu, .int .i64 cs, .int .i64 ck, .int .i64 ch, .int .i64 cn, .string ct] 24)).alloc (.cells #[.int .i64 j1, .int .i64 j2] 26)) (w.heap.size + 1 + 1) cu cs ck ch cn ct := by
    have h1 := cb_new ((w.alloc (.cells #[.int .i64 x1, .int .i64 x2, .int .i64 xu, .int .i64 xs, .int .i64 xk, .int .i64 xh, .int .i64 xn, .string xt, .int .i64 xq] 29)).alloc (.cells #[.int .i64 y1, .int .i64 y2, .int .i64 yu, .int .i64 ys, .int .i64 yk, .int .i64 yh, .int .i64 yn, .string yt, .int .i64 yq] 29)) cu cs ck ch cn ct
    rw [show ((w.alloc (.cells #[.int .i64 x1, .int .i64 x2, .int .i64 xu, .int .i64 xs, .int .i64 xk, .int .i64 xh, .int .i64 xn, .string xt, .int .i64 xq] 29)).alloc (.cells #[.int .i64 y1, .int .i64 y2, .int .i64 yu, .int .i64 ys, .int .i64 yk, .int .i64 yh, .int .i64 yn, .string yt, .int .i64 yq] 29)).heap.size = w.heap.size + 1 + 1 by simp] at h1
    exact (h1.on ((Below.refl _ _).alloc (Nat.le_refl _) _) (by first | (simp; done) | (simp; omega)))
  have Dj0 : At.Ib ((((w.alloc (.cells #[.int .i64 x1, .int .i64 x2, .int .i64 xu, .int .i64 xs, .int .i64 xk, .int .i64 xh, .int .i64 xn, .string xt, .int .i64 xq] 29)).alloc (.cells #[.int .i64 y1, .int .i64 y2, .int .i64 yu, .int .i64 ys, .int .i64 yk, .int .i64 yh, .int .i64 yn, .string yt, .int .i64 yq] 29)).alloc (.cells #[.int .i64 cu, .int .i64 cs, .int .i64 ck, .int .i64 ch, .int .i64 cn, .string ct] 24)).alloc (.cells #[.int .i64 j1, .int .i64 j2] 26)) (w.heap.size + 1 + 1 + 1) j1 j2 := by
    have h1 := At.ib_new (((w.alloc (.cells #[.int .i64 x1, .int .i64 x2, .int .i64 xu, .int .i64 xs, .int .i64 xk, .int .i64 xh, .int .i64 xn, .string xt, .int .i64 xq] 29)).alloc (.cells #[.int .i64 y1, .int .i64 y2, .int .i64 yu, .int .i64 ys, .int .i64 yk, .int .i64 yh, .int .i64 yn, .string yt, .int .i64 yq] 29)).alloc (.cells #[.int .i64 cu, .int .i64 cs, .int .i64 ck, .int .i64 ch, .int .i64 cn, .string ct] 24)) j1 j2
    rw [show (((w.alloc (.cells #[.int .i64 x1, .int .i64 x2, .int .i64 xu, .int .i64 xs, .int .i64 xk, .int .i64 xh, .int .i64 xn, .string xt, .int .i64 xq] 29)).alloc (.cells #[.int .i64 y1, .int .i64 y2, .int .i64 yu, .int .i64 ys, .int .i64 yk, .int .i64 yh, .int .i64 yn, .string yt, .int .i64 yq] 29)).alloc (.cells #[.int .i64 cu, .int .i64 cs, .int .i64 ck, .int .i64 ch, .int .i64 cn, .string ct] 24)).heap.size = w.heap.size + 1 + 1 + 1 by simp] at h1
    exact h1
  have N0 := hN.on B0
  go_enter Tryd.func8, Tryd.ntmps8
  go_wp2_with fail
  generalize ((((w.alloc (.cells #[.int .i64 x1, .int .i64 x2, .int .i64 xu, .int .i64 xs, .int .i64 xk, .int .i64 xh, .int .i64 xn, .string xt, .int .i64 xq] 29)).alloc (.cells #[.int .i64 y1, .int .i64 y2, .int .i64 yu, .int .i64 ys, .int .i64 yk, .int .i64 yh, .int .i64 yn, .string yt, .int .i64 yq] 29)).alloc (.cells #[.int .i64 cu, .int .i64 cs, .int .i64 ck, .int .i64 ch, .int .i64 cn, .string ct] 24)).alloc (.cells #[.int .i64 j1, .int .i64 j2] 26)) = W0 at *
  refine (awake_any W0 N0).mono ?_
  rintro e W1 ⟨rfl, B1⟩
  have z1 := B1.size
  have N1 := N0.on B1
  have Dx1 := Dx0.on B1 (by omega)
  have Dy1 := Dy0.on B1 (by omega)
  have Dc1 := Dc0.on B1 (by omega)
  have Dj1 := Dj0.on B1 (by omega)
  have BE := B0.trans (B1.mono (by omega))
  clear Dx0 Dy0 Dc0 Dj0
  clear B1 B0 N0
  go_wp2_with fail
  refine (H13 _).out.mono ?_
  rintro e W2 ⟨rfl, rfl⟩
  have BN : Below W1.heap.size W1 (W1.alloc (.cells #[.int .i64 n, .map none, .map none] 55)) := (Below.refl _ _).alloc (Nat.le_refl _) _
  have BE2 := BE.trans (BN.mono BE.size)
  have X2 := ix_new W1 n
  have N2 := N1.on BN
  have ZX : W1.heap.size < (W1.alloc (.cells #[.int .i64 n, .map none, .map none] 55)).heap.size := by simp
  have Dx2 := Dx1.on BN (by omega)
  have Dy2 := Dy1.on BN (by omega)
  have Dc2 := Dc1.on BN (by omega)
  have Dj2 := Dj1.on BN (by omega)
  clear Dx1 Dy1 Dc1 Dj1
  clear BE N1 BN
  go_wp2_with fail
  generalize (W1.alloc (.cells #[.int .i64 n, .map none, .map none] 55)) = W2 at *
  generalize W1.heap.size = X at *
  refine (H13 _).out.mono ?_
  rintro e W3 ⟨rfl, rfl⟩
  have BN : Below W2.heap.size W2 (W2.alloc (.cells #[.int .i64 n, .map none, .map none] 55)) := (Below.refl _ _).alloc (Nat.le_refl _) _
  have BE3 := BE2.trans (BN.mono BE2.size)
  have X3 := X2.on BN
  have Y3 := ix_new W2 n
  have N3 := N2.on BN
  have ZY : W2.heap.size < (W2.alloc (.cells #[.int .i64 n, .map none, .map none] 55)).heap.size := by simp
  have Dx3 := Dx2.on BN (by omega)
  have Dy3 := Dy2.on BN (by omega)
  have Dc3 := Dc2.on BN (by omega)
  have Dj3 := Dj2.on BN (by omega)
  clear Dx2 Dy2 Dc2 Dj2
  clear BE2 N2 BN X2 H13
  obtain ⟨gx0, gx1, gx2, gx3, gx4, gx5, gx6, gx7, gx8⟩ := id Dx3
  obtain ⟨gy0, gy1, gy2, gy3, gy4, gy5, gy6, gy7, gy8⟩ := id Dy3
  have ya0 : w.heap.size < W2.heap.size := by omega
  have yb0 : w.heap.size + 1 < W2.heap.size := by omega
  go_wp2
  go_ret
  exact ⟨rfl, BE3⟩

theorem early2 (A : Option Addr) (cp : Nat) (l : List Kn) (x1 x2 xu xs xk xh xn xq : Int) (xt : ByteArray) (y1 y2 yu ys yk yh yn yq : Int) (yt : ByteArray) (cu cs ck ch cn : Int) (ct : ByteArray) (j1 j2 : Int) (n : Int) (w : World) (hN : Nd w) (hl : ¬ (60 : Int) < (l.length : Int)) (ha : 1099511627776 < xq) : Calls Tryd.prog 8 #[.slice A l.length cp, (.agg #[.int .i64 x1, .int .i64 x2, .int .i64 xu, .int .i64 xs, .int .i64 xk, .int .i64 xh, .int .i64 xn, .string xt, .int .i64 xq]), (.agg #[.int .i64 y1, .int .i64 y2, .int .i64 yu, .int .i64 ys, .int .i64 yk, .int .i64 yh, .int .i64 yn, .string yt, .int .i64 yq]), (cv cu cs ck ch cn ct), (.agg #[.int .i64 j1, .int .i64 j2]), .int .i64 n] w (UpPost w) := by
  have H13 : ∀ W, Hid (Calls Tryd.prog 13 #[.int .i64 n] W fun e w' => e = .returned (.pointer (some ⟨W.heap.size, 0, none⟩)) ∧ w' = W.alloc (.cells #[.int .i64 n, .map none, .map none] 55)) := fun W => new_any n W
  have B0 : Below w.heap.size w ((((w.alloc (.cells #[.int .i64 x1, .int .i64 x2, .int .i64 xu, .int .i64 xs, .int .i64 xk, .int .i64 xh, .int .i64 xn, .string xt, .int .i64 xq] 29)).alloc (.cells #[.int .i64 y1, .int .i64 y2, .int .i64 yu, .int .i64 ys, .int .i64 yk, .int .i64 yh, .int .i64 yn, .string yt, .int .i64 yq] 29)).alloc (.cells #[.int .i64 cu, .int .i64 cs, .int .i64 ck, .int .i64 ch, .int .i64 cn, .string ct] 24)).alloc (.cells #[.int .i64 j1, .int .i64 j2] 26)) := (((((Below.refl _ _).alloc (Nat.le_refl _) _).alloc (by first | (simp; done) | (simp; omega)) _).alloc (by first | (simp; done) | (simp; omega)) _).alloc (by first | (simp; done) | (simp; omega)) _)
  have Z0 : ((((w.alloc (.cells #[.int .i64 x1, .int .i64 x2, .int .i64 xu, .int .i64 xs, .int .i64 xk, .int .i64 xh, .int .i64 xn, .string xt, .int .i64 xq] 29)).alloc (.cells #[.int .i64 y1, .int .i64 y2, .int .i64 yu, .int .i64 ys, .int .i64 yk, .int .i64 yh, .int .i64 yn, .string yt, .int .i64 yq] 29)).alloc (.cells #[.int .i64 cu, .int .i64 cs, .int .i64 ck, .int .i64 ch, .int .i64 cn, .string ct] 24)).alloc (.cells #[.int .i64 j1, .int .i64 j2] 26)).heap.size = w.heap.size + 1 + 1 + 1 + 1 := by simp
  have Dx0 : Nb ((((w.alloc (.cells #[.int .i64 x1, .int .i64 x2, .int .i64 xu, .int .i64 xs, .int .i64 xk, .int .i64 xh, .int .i64 xn, .string xt, .int .i64 xq] 29)).alloc (.cells #[.int .i64 y1, .int .i64 y2, .int .i64 yu, .int .i64 ys, .int .i64 yk, .int .i64 yh, .int .i64 yn, .string yt, .int .i64 yq] 29)).alloc (.cells #[.int .i64 cu, .int .i64 cs, .int .i64 ck, .int .i64 ch, .int .i64 cn, .string ct] 24)).alloc (.cells #[.int .i64 j1, .int .i64 j2] 26)) (w.heap.size) ⟨(x1, x2), ⟨xu, xs, xk, xh, xn, xt⟩, xq⟩ := by
    have h1 := nb_new w ⟨(x1, x2), ⟨xu, xs, xk, xh, xn, xt⟩, xq⟩
    exact (((h1.on ((Below.refl _ _).alloc (Nat.le_refl _) _) (by first | (simp; done) | (simp; omega))).on ((Below.refl _ _).alloc (Nat.le_refl _) _) (by first | (simp; done) | (simp; omega))).on ((Below.refl _ _).alloc (Nat.le_refl _) _) (by first | (simp; done) | (simp; omega)))
  have Dy0 : Nb ((((w.alloc (.cells #[.int .i64 x1, .int .i64 x2, .int .i64 xu, .int .i64 xs, .int .i64 xk, .int .i64 xh, .int .i64 xn, .string xt, .int .i64 xq] 29)).alloc (.cells #[.int .i64 y1, .int .i64 y2, .int .i64 yu, .int .i64 ys, .int .i64 yk, .int .i64 yh, .int .i64 yn, .string yt, .int .i64 yq] 29)).alloc (.cells #[.int .i64 cu, .int .i64 cs, .int .i64 ck, .int .i64 ch, .int .i64 cn, .string ct] 24)).alloc (.cells #[.int .i64 j1, .int .i64 j2] 26)) (w.heap.size + 1) ⟨(y1, y2), ⟨yu, ys, yk, yh, yn, yt⟩, yq⟩ := by
    have h1 := nb_new (w.alloc (.cells #[.int .i64 x1, .int .i64 x2, .int .i64 xu, .int .i64 xs, .int .i64 xk, .int .i64 xh, .int .i64 xn, .string xt, .int .i64 xq] 29)) ⟨(y1, y2), ⟨yu, ys, yk, yh, yn, yt⟩, yq⟩
    rw [show (w.alloc (.cells #[.int .i64 x1, .int .i64 x2, .int .i64 xu, .int .i64 xs, .int .i64 xk, .int .i64 xh, .int .i64 xn, .string xt, .int .i64 xq] 29)).heap.size = w.heap.size + 1 by simp] at h1
    exact ((h1.on ((Below.refl _ _).alloc (Nat.le_refl _) _) (by first | (simp; done) | (simp; omega))).on ((Below.refl _ _).alloc (Nat.le_refl _) _) (by first | (simp; done) | (simp; omega)))
  have Dc0 : Cb ((((w.alloc (.cells #[.int .i64 x1, .int .i64 x2, .int .i64 xu, .int .i64 xs, .int .i64 xk, .int .i64 xh, .int .i64 xn, .string xt, .int .i64 xq] 29)).alloc (.cells #[.int .i64 y1, .int .i64 y2, .int .i64 yu, .int .i64 ys, .int .i64 yk, .int .i64 yh, .int .i64 yn, .string yt, .int .i64 yq] 29)).alloc (.cells #[.int .i64 cu, .int .i64 cs, .int .i64 ck, .int .i64 ch, .int .i64 cn, .string ct] 24)).alloc (.cells #[.int .i64 j1, .int .i64 j2] 26)) (w.heap.size + 1 + 1) cu cs ck ch cn ct := by
    have h1 := cb_new ((w.alloc (.cells #[.int .i64 x1, .int .i64 x2, .int .i64 xu, .int .i64 xs, .int .i64 xk, .int .i64 xh, .int .i64 xn, .string xt, .int .i64 xq] 29)).alloc (.cells #[.int .i64 y1, .int .i64 y2, .int .i64 yu, .int .i64 ys, .int .i64 yk, .int .i64 yh, .int .i64 yn, .string yt, .int .i64 yq] 29)) cu cs ck ch cn ct
    rw [show ((w.alloc (.cells #[.int .i64 x1, .int .i64 x2, .int .i64 xu, .int .i64 xs, .int .i64 xk, .int .i64 xh, .int .i64 xn, .string xt, .int .i64 xq] 29)).alloc (.cells #[.int .i64 y1, .int .i64 y2, .int .i64 yu, .int .i64 ys, .int .i64 yk, .int .i64 yh, .int .i64 yn, .string yt, .int .i64 yq] 29)).heap.size = w.heap.size + 1 + 1 by simp] at h1
    exact (h1.on ((Below.refl _ _).alloc (Nat.le_refl _) _) (by first | (simp; done) | (simp; omega)))
  have Dj0 : At.Ib ((((w.alloc (.cells #[.int .i64 x1, .int .i64 x2, .int .i64 xu, .int .i64 xs, .int .i64 xk, .int .i64 xh, .int .i64 xn, .string xt, .int .i64 xq] 29)).alloc (.cells #[.int .i64 y1, .int .i64 y2, .int .i64 yu, .int .i64 ys, .int .i64 yk, .int .i64 yh, .int .i64 yn, .string yt, .int .i64 yq] 29)).alloc (.cells #[.int .i64 cu, .int .i64 cs, .int .i64 ck, .int .i64 ch, .int .i64 cn, .string ct] 24)).alloc (.cells #[.int .i64 j1, .int .i64 j2] 26)) (w.heap.size + 1 + 1 + 1) j1 j2 := by
    have h1 := At.ib_new (((w.alloc (.cells #[.int .i64 x1, .int .i64 x2, .int .i64 xu, .int .i64 xs, .int .i64 xk, .int .i64 xh, .int .i64 xn, .string xt, .int .i64 xq] 29)).alloc (.cells #[.int .i64 y1, .int .i64 y2, .int .i64 yu, .int .i64 ys, .int .i64 yk, .int .i64 yh, .int .i64 yn, .string yt, .int .i64 yq] 29)).alloc (.cells #[.int .i64 cu, .int .i64 cs, .int .i64 ck, .int .i64 ch, .int .i64 cn, .string ct] 24)) j1 j2
    rw [show (((w.alloc (.cells #[.int .i64 x1, .int .i64 x2, .int .i64 xu, .int .i64 xs, .int .i64 xk, .int .i64 xh, .int .i64 xn, .string xt, .int .i64 xq] 29)).alloc (.cells #[.int .i64 y1, .int .i64 y2, .int .i64 yu, .int .i64 ys, .int .i64 yk, .int .i64 yh, .int .i64 yn, .string yt, .int .i64 yq] 29)).alloc (.cells #[.int .i64 cu, .int .i64 cs, .int .i64 ck, .int .i64 ch, .int .i64 cn, .string ct] 24)).heap.size = w.heap.size + 1 + 1 + 1 by simp] at h1
    exact h1
  have N0 := hN.on B0
  go_enter Tryd.func8, Tryd.ntmps8
  go_wp2_with fail
  generalize ((((w.alloc (.cells #[.int .i64 x1, .int .i64 x2, .int .i64 xu, .int .i64 xs, .int .i64 xk, .int .i64 xh, .int .i64 xn, .string xt, .int .i64 xq] 29)).alloc (.cells #[.int .i64 y1, .int .i64 y2, .int .i64 yu, .int .i64 ys, .int .i64 yk, .int .i64 yh, .int .i64 yn, .string yt, .int .i64 yq] 29)).alloc (.cells #[.int .i64 cu, .int .i64 cs, .int .i64 ck, .int .i64 ch, .int .i64 cn, .string ct] 24)).alloc (.cells #[.int .i64 j1, .int .i64 j2] 26)) = W0 at *
  refine (awake_any W0 N0).mono ?_
  rintro e W1 ⟨rfl, B1⟩
  have z1 := B1.size
  have N1 := N0.on B1
  have Dx1 := Dx0.on B1 (by omega)
  have Dy1 := Dy0.on B1 (by omega)
  have Dc1 := Dc0.on B1 (by omega)
  have Dj1 := Dj0.on B1 (by omega)
  have BE := B0.trans (B1.mono (by omega))
  clear Dx0 Dy0 Dc0 Dj0
  clear B1 B0 N0
  go_wp2_with fail
  refine (H13 _).out.mono ?_
  rintro e W2 ⟨rfl, rfl⟩
  have BN : Below W1.heap.size W1 (W1.alloc (.cells #[.int .i64 n, .map none, .map none] 55)) := (Below.refl _ _).alloc (Nat.le_refl _) _
  have BE2 := BE.trans (BN.mono BE.size)
  have X2 := ix_new W1 n
  have N2 := N1.on BN
  have ZX : W1.heap.size < (W1.alloc (.cells #[.int .i64 n, .map none, .map none] 55)).heap.size := by simp
  have Dx2 := Dx1.on BN (by omega)
  have Dy2 := Dy1.on BN (by omega)
  have Dc2 := Dc1.on BN (by omega)
  have Dj2 := Dj1.on BN (by omega)
  clear Dx1 Dy1 Dc1 Dj1
  clear BE N1 BN
  go_wp2_with fail
  generalize (W1.alloc (.cells #[.int .i64 n, .map none, .map none] 55)) = W2 at *
  generalize W1.heap.size = X at *
  refine (H13 _).out.mono ?_
  rintro e W3 ⟨rfl, rfl⟩
  have BN : Below W2.heap.size W2 (W2.alloc (.cells #[.int .i64 n, .map none, .map none] 55)) := (Below.refl _ _).alloc (Nat.le_refl _) _
  have BE3 := BE2.trans (BN.mono BE2.size)
  have X3 := X2.on BN
  have Y3 := ix_new W2 n
  have N3 := N2.on BN
  have ZY : W2.heap.size < (W2.alloc (.cells #[.int .i64 n, .map none, .map none] 55)).heap.size := by simp
  have Dx3 := Dx2.on BN (by omega)
  have Dy3 := Dy2.on BN (by omega)
  have Dc3 := Dc2.on BN (by omega)
  have Dj3 := Dj2.on BN (by omega)
  clear Dx2 Dy2 Dc2 Dj2
  clear BE2 N2 BN X2 H13
  obtain ⟨gx0, gx1, gx2, gx3, gx4, gx5, gx6, gx7, gx8⟩ := id Dx3
  obtain ⟨gy0, gy1, gy2, gy3, gy4, gy5, gy6, gy7, gy8⟩ := id Dy3
  have ya0 : w.heap.size < W2.heap.size := by omega
  have yb0 : w.heap.size + 1 < W2.heap.size := by omega
  go_wp2
  go_ret
  exact ⟨rfl, BE3⟩

theorem early3 (A : Option Addr) (cp : Nat) (l : List Kn) (x1 x2 xu xs xk xh xn xq : Int) (xt : ByteArray) (y1 y2 yu ys yk yh yn yq : Int) (yt : ByteArray) (cu cs ck ch cn : Int) (ct : ByteArray) (j1 j2 : Int) (n : Int) (w : World) (hN : Nd w) (hl : ¬ (60 : Int) < (l.length : Int)) (ha : ¬ 1099511627776 < xq) (hb : 1099511627776 < yq) : Calls Tryd.prog 8 #[.slice A l.length cp, (.agg #[.int .i64 x1, .int .i64 x2, .int .i64 xu, .int .i64 xs, .int .i64 xk, .int .i64 xh, .int .i64 xn, .string xt, .int .i64 xq]), (.agg #[.int .i64 y1, .int .i64 y2, .int .i64 yu, .int .i64 ys, .int .i64 yk, .int .i64 yh, .int .i64 yn, .string yt, .int .i64 yq]), (cv cu cs ck ch cn ct), (.agg #[.int .i64 j1, .int .i64 j2]), .int .i64 n] w (UpPost w) := by
  have H13 : ∀ W, Hid (Calls Tryd.prog 13 #[.int .i64 n] W fun e w' => e = .returned (.pointer (some ⟨W.heap.size, 0, none⟩)) ∧ w' = W.alloc (.cells #[.int .i64 n, .map none, .map none] 55)) := fun W => new_any n W
  have B0 : Below w.heap.size w ((((w.alloc (.cells #[.int .i64 x1, .int .i64 x2, .int .i64 xu, .int .i64 xs, .int .i64 xk, .int .i64 xh, .int .i64 xn, .string xt, .int .i64 xq] 29)).alloc (.cells #[.int .i64 y1, .int .i64 y2, .int .i64 yu, .int .i64 ys, .int .i64 yk, .int .i64 yh, .int .i64 yn, .string yt, .int .i64 yq] 29)).alloc (.cells #[.int .i64 cu, .int .i64 cs, .int .i64 ck, .int .i64 ch, .int .i64 cn, .string ct] 24)).alloc (.cells #[.int .i64 j1, .int .i64 j2] 26)) := (((((Below.refl _ _).alloc (Nat.le_refl _) _).alloc (by first | (simp; done) | (simp; omega)) _).alloc (by first | (simp; done) | (simp; omega)) _).alloc (by first | (simp; done) | (simp; omega)) _)
  have Z0 : ((((w.alloc (.cells #[.int .i64 x1, .int .i64 x2, .int .i64 xu, .int .i64 xs, .int .i64 xk, .int .i64 xh, .int .i64 xn, .string xt, .int .i64 xq] 29)).alloc (.cells #[.int .i64 y1, .int .i64 y2, .int .i64 yu, .int .i64 ys, .int .i64 yk, .int .i64 yh, .int .i64 yn, .string yt, .int .i64 yq] 29)).alloc (.cells #[.int .i64 cu, .int .i64 cs, .int .i64 ck, .int .i64 ch, .int .i64 cn, .string ct] 24)).alloc (.cells #[.int .i64 j1, .int .i64 j2] 26)).heap.size = w.heap.size + 1 + 1 + 1 + 1 := by simp
  have Dx0 : Nb ((((w.alloc (.cells #[.int .i64 x1, .int .i64 x2, .int .i64 xu, .int .i64 xs, .int .i64 xk, .int .i64 xh, .int .i64 xn, .string xt, .int .i64 xq] 29)).alloc (.cells #[.int .i64 y1, .int .i64 y2, .int .i64 yu, .int .i64 ys, .int .i64 yk, .int .i64 yh, .int .i64 yn, .string yt, .int .i64 yq] 29)).alloc (.cells #[.int .i64 cu, .int .i64 cs, .int .i64 ck, .int .i64 ch, .int .i64 cn, .string ct] 24)).alloc (.cells #[.int .i64 j1, .int .i64 j2] 26)) (w.heap.size) ⟨(x1, x2), ⟨xu, xs, xk, xh, xn, xt⟩, xq⟩ := by
    have h1 := nb_new w ⟨(x1, x2), ⟨xu, xs, xk, xh, xn, xt⟩, xq⟩
    exact (((h1.on ((Below.refl _ _).alloc (Nat.le_refl _) _) (by first | (simp; done) | (simp; omega))).on ((Below.refl _ _).alloc (Nat.le_refl _) _) (by first | (simp; done) | (simp; omega))).on ((Below.refl _ _).alloc (Nat.le_refl _) _) (by first | (simp; done) | (simp; omega)))
  have Dy0 : Nb ((((w.alloc (.cells #[.int .i64 x1, .int .i64 x2, .int .i64 xu, .int .i64 xs, .int .i64 xk, .int .i64 xh, .int .i64 xn, .string xt, .int .i64 xq] 29)).alloc (.cells #[.int .i64 y1, .int .i64 y2, .int .i64 yu, .int .i64 ys, .int .i64 yk, .int .i64 yh, .int .i64 yn, .string yt, .int .i64 yq] 29)).alloc (.cells #[.int .i64 cu, .int .i64 cs, .int .i64 ck, .int .i64 ch, .int .i64 cn, .string ct] 24)).alloc (.cells #[.int .i64 j1, .int .i64 j2] 26)) (w.heap.size + 1) ⟨(y1, y2), ⟨yu, ys, yk, yh, yn, yt⟩, yq⟩ := by
    have h1 := nb_new (w.alloc (.cells #[.int .i64 x1, .int .i64 x2, .int .i64 xu, .int .i64 xs, .int .i64 xk, .int .i64 xh, .int .i64 xn, .string xt, .int .i64 xq] 29)) ⟨(y1, y2), ⟨yu, ys, yk, yh, yn, yt⟩, yq⟩
    rw [show (w.alloc (.cells #[.int .i64 x1, .int .i64 x2, .int .i64 xu, .int .i64 xs, .int .i64 xk, .int .i64 xh, .int .i64 xn, .string xt, .int .i64 xq] 29)).heap.size = w.heap.size + 1 by simp] at h1
    exact ((h1.on ((Below.refl _ _).alloc (Nat.le_refl _) _) (by first | (simp; done) | (simp; omega))).on ((Below.refl _ _).alloc (Nat.le_refl _) _) (by first | (simp; done) | (simp; omega)))
  have Dc0 : Cb ((((w.alloc (.cells #[.int .i64 x1, .int .i64 x2, .int .i64 xu, .int .i64 xs, .int .i64 xk, .int .i64 xh, .int .i64 xn, .string xt, .int .i64 xq] 29)).alloc (.cells #[.int .i64 y1, .int .i64 y2, .int .i64 yu, .int .i64 ys, .int .i64 yk, .int .i64 yh, .int .i64 yn, .string yt, .int .i64 yq] 29)).alloc (.cells #[.int .i64 cu, .int .i64 cs, .int .i64 ck, .int .i64 ch, .int .i64 cn, .string ct] 24)).alloc (.cells #[.int .i64 j1, .int .i64 j2] 26)) (w.heap.size + 1 + 1) cu cs ck ch cn ct := by
    have h1 := cb_new ((w.alloc (.cells #[.int .i64 x1, .int .i64 x2, .int .i64 xu, .int .i64 xs, .int .i64 xk, .int .i64 xh, .int .i64 xn, .string xt, .int .i64 xq] 29)).alloc (.cells #[.int .i64 y1, .int .i64 y2, .int .i64 yu, .int .i64 ys, .int .i64 yk, .int .i64 yh, .int .i64 yn, .string yt, .int .i64 yq] 29)) cu cs ck ch cn ct
    rw [show ((w.alloc (.cells #[.int .i64 x1, .int .i64 x2, .int .i64 xu, .int .i64 xs, .int .i64 xk, .int .i64 xh, .int .i64 xn, .string xt, .int .i64 xq] 29)).alloc (.cells #[.int .i64 y1, .int .i64 y2, .int .i64 yu, .int .i64 ys, .int .i64 yk, .int .i64 yh, .int .i64 yn, .string yt, .int .i64 yq] 29)).heap.size = w.heap.size + 1 + 1 by simp] at h1
    exact (h1.on ((Below.refl _ _).alloc (Nat.le_refl _) _) (by first | (simp; done) | (simp; omega)))
  have Dj0 : At.Ib ((((w.alloc (.cells #[.int .i64 x1, .int .i64 x2, .int .i64 xu, .int .i64 xs, .int .i64 xk, .int .i64 xh, .int .i64 xn, .string xt, .int .i64 xq] 29)).alloc (.cells #[.int .i64 y1, .int .i64 y2, .int .i64 yu, .int .i64 ys, .int .i64 yk, .int .i64 yh, .int .i64 yn, .string yt, .int .i64 yq] 29)).alloc (.cells #[.int .i64 cu, .int .i64 cs, .int .i64 ck, .int .i64 ch, .int .i64 cn, .string ct] 24)).alloc (.cells #[.int .i64 j1, .int .i64 j2] 26)) (w.heap.size + 1 + 1 + 1) j1 j2 := by
    have h1 := At.ib_new (((w.alloc (.cells #[.int .i64 x1, .int .i64 x2, .int .i64 xu, .int .i64 xs, .int .i64 xk, .int .i64 xh, .int .i64 xn, .string xt, .int .i64 xq] 29)).alloc (.cells #[.int .i64 y1, .int .i64 y2, .int .i64 yu, .int .i64 ys, .int .i64 yk, .int .i64 yh, .int .i64 yn, .string yt, .int .i64 yq] 29)).alloc (.cells #[.int .i64 cu, .int .i64 cs, .int .i64 ck, .int .i64 ch, .int .i64 cn, .string ct] 24)) j1 j2
    rw [show (((w.alloc (.cells #[.int .i64 x1, .int .i64 x2, .int .i64 xu, .int .i64 xs, .int .i64 xk, .int .i64 xh, .int .i64 xn, .string xt, .int .i64 xq] 29)).alloc (.cells #[.int .i64 y1, .int .i64 y2, .int .i64 yu, .int .i64 ys, .int .i64 yk, .int .i64 yh, .int .i64 yn, .string yt, .int .i64 yq] 29)).alloc (.cells #[.int .i64 cu, .int .i64 cs, .int .i64 ck, .int .i64 ch, .int .i64 cn, .string ct] 24)).heap.size = w.heap.size + 1 + 1 + 1 by simp] at h1
    exact h1
  have N0 := hN.on B0
  go_enter Tryd.func8, Tryd.ntmps8
  go_wp2_with fail
  generalize ((((w.alloc (.cells #[.int .i64 x1, .int .i64 x2, .int .i64 xu, .int .i64 xs, .int .i64 xk, .int .i64 xh, .int .i64 xn, .string xt, .int .i64 xq] 29)).alloc (.cells #[.int .i64 y1, .int .i64 y2, .int .i64 yu, .int .i64 ys, .int .i64 yk, .int .i64 yh, .int .i64 yn, .string yt, .int .i64 yq] 29)).alloc (.cells #[.int .i64 cu, .int .i64 cs, .int .i64 ck, .int .i64 ch, .int .i64 cn, .string ct] 24)).alloc (.cells #[.int .i64 j1, .int .i64 j2] 26)) = W0 at *
  refine (awake_any W0 N0).mono ?_
  rintro e W1 ⟨rfl, B1⟩
  have z1 := B1.size
  have N1 := N0.on B1
  have Dx1 := Dx0.on B1 (by omega)
  have Dy1 := Dy0.on B1 (by omega)
  have Dc1 := Dc0.on B1 (by omega)
  have Dj1 := Dj0.on B1 (by omega)
  have BE := B0.trans (B1.mono (by omega))
  clear Dx0 Dy0 Dc0 Dj0
  clear B1 B0 N0
  go_wp2_with fail
  refine (H13 _).out.mono ?_
  rintro e W2 ⟨rfl, rfl⟩
  have BN : Below W1.heap.size W1 (W1.alloc (.cells #[.int .i64 n, .map none, .map none] 55)) := (Below.refl _ _).alloc (Nat.le_refl _) _
  have BE2 := BE.trans (BN.mono BE.size)
  have X2 := ix_new W1 n
  have N2 := N1.on BN
  have ZX : W1.heap.size < (W1.alloc (.cells #[.int .i64 n, .map none, .map none] 55)).heap.size := by simp
  have Dx2 := Dx1.on BN (by omega)
  have Dy2 := Dy1.on BN (by omega)
  have Dc2 := Dc1.on BN (by omega)
  have Dj2 := Dj1.on BN (by omega)
  clear Dx1 Dy1 Dc1 Dj1
  clear BE N1 BN
  go_wp2_with fail
  generalize (W1.alloc (.cells #[.int .i64 n, .map none, .map none] 55)) = W2 at *
  generalize W1.heap.size = X at *
  refine (H13 _).out.mono ?_
  rintro e W3 ⟨rfl, rfl⟩
  have BN : Below W2.heap.size W2 (W2.alloc (.cells #[.int .i64 n, .map none, .map none] 55)) := (Below.refl _ _).alloc (Nat.le_refl _) _
  have BE3 := BE2.trans (BN.mono BE2.size)
  have X3 := X2.on BN
  have Y3 := ix_new W2 n
  have N3 := N2.on BN
  have ZY : W2.heap.size < (W2.alloc (.cells #[.int .i64 n, .map none, .map none] 55)).heap.size := by simp
  have Dx3 := Dx2.on BN (by omega)
  have Dy3 := Dy2.on BN (by omega)
  have Dc3 := Dc2.on BN (by omega)
  have Dj3 := Dj2.on BN (by omega)
  clear Dx2 Dy2 Dc2 Dj2
  clear BE2 N2 BN X2 H13
  obtain ⟨gx0, gx1, gx2, gx3, gx4, gx5, gx6, gx7, gx8⟩ := id Dx3
  obtain ⟨gy0, gy1, gy2, gy3, gy4, gy5, gy6, gy7, gy8⟩ := id Dy3
  have ya0 : w.heap.size < W2.heap.size := by omega
  have yb0 : w.heap.size + 1 < W2.heap.size := by omega
  go_wp2
  go_ret
  exact ⟨rfl, BE3⟩

set_option maxHeartbeats 4000000 in
theorem rest (N : Nat) (A : Option Addr) (cp : Nat) (l : List Kn) (x1 x2 xu xs xk xh xn xq : Int) (xt : ByteArray) (y1 y2 yu ys yk yh yn yq : Int) (yt : ByteArray) (cu cs ck ch cn : Int) (ct : ByteArray) (j1 j2 : Int) (n : Int) (w : World) (hN : Nd w) (hl : ¬ (60 : Int) < (l.length : Int)) (ha : ¬ 1099511627776 < xq) (hb : ¬ 1099511627776 < yq) (hn : am n = (N : Int)) (h7 : N ≤ 7) (hs : Ns w w.heap.size A l) (hlow : ∀ k ∈ l, -9223372036854775808 ≤ k.q) (hqa : -9223372036854775808 ≤ xq) (hqb : -9223372036854775808 ≤ yq) : Calls Tryd.prog 8 #[.slice A l.length cp, (.agg #[.int .i64 x1, .int .i64 x2, .int .i64 xu, .int .i64 xs, .int .i64 xk, .int .i64 xh, .int .i64 xn, .string xt, .int .i64 xq]), (.agg #[.int .i64 y1, .int .i64 y2, .int .i64 yu, .int .i64 ys, .int .i64 yk, .int .i64 yh, .int .i64 yn, .string yt, .int .i64 yq]), (cv cu cs ck ch cn ct), (.agg #[.int .i64 j1, .int .i64 j2]), .int .i64 n] w (UpPost w) := by
  have XB0 : Nx ((((w.alloc (.cells #[.int .i64 x1, .int .i64 x2, .int .i64 xu, .int .i64 xs, .int .i64 xk, .int .i64 xh, .int .i64 xn, .string xt, .int .i64 xq] 29)).alloc (.cells #[.int .i64 y1, .int .i64 y2, .int .i64 yu, .int .i64 ys, .int .i64 yk, .int .i64 yh, .int .i64 yn, .string yt, .int .i64 yq] 29)).alloc (.cells #[.int .i64 cu, .int .i64 cs, .int .i64 ck, .int .i64 ch, .int .i64 cn, .string ct] 24)).alloc (.cells #[.int .i64 j1, .int .i64 j2] 26)) (w.heap.size + 1) ⟨(y1, y2), ⟨yu, ys, yk, yh, yn, yt⟩, yq⟩ := by
    have h1 := nx_new (w.alloc (.cells #[.int .i64 x1, .int .i64 x2, .int .i64 xu, .int .i64 xs, .int .i64 xk, .int .i64 xh, .int .i64 xn, .string xt, .int .i64 xq] 29)) ⟨(y1, y2), ⟨yu, ys, yk, yh, yn, yt⟩, yq⟩
    rw [show (w.alloc (.cells #[.int .i64 x1, .int .i64 x2, .int .i64 xu, .int .i64 xs, .int .i64 xk, .int .i64 xh, .int .i64 xn, .string xt, .int .i64 xq] 29)).heap.size = w.heap.size + 1 by simp] at h1
    exact (h1.on ((Below.refl _ _).alloc (Nat.le_refl _) _) (by first | (simp; done) | (simp; omega))).on ((Below.refl _ _).alloc (Nat.le_refl _) _) (by first | (simp; done) | (simp; omega))
  have H13 : ∀ W, Hid (Calls Tryd.prog 13 #[.int .i64 n] W fun e w' => e = .returned (.pointer (some ⟨W.heap.size, 0, none⟩)) ∧ w' = W.alloc (.cells #[.int .i64 n, .map none, .map none] 55)) := fun W => new_any n W
  have B0 : Below w.heap.size w ((((w.alloc (.cells #[.int .i64 x1, .int .i64 x2, .int .i64 xu, .int .i64 xs, .int .i64 xk, .int .i64 xh, .int .i64 xn, .string xt, .int .i64 xq] 29)).alloc (.cells #[.int .i64 y1, .int .i64 y2, .int .i64 yu, .int .i64 ys, .int .i64 yk, .int .i64 yh, .int .i64 yn, .string yt, .int .i64 yq] 29)).alloc (.cells #[.int .i64 cu, .int .i64 cs, .int .i64 ck, .int .i64 ch, .int .i64 cn, .string ct] 24)).alloc (.cells #[.int .i64 j1, .int .i64 j2] 26)) := (((((Below.refl _ _).alloc (Nat.le_refl _) _).alloc (by first | (simp; done) | (simp; omega)) _).alloc (by first | (simp; done) | (simp; omega)) _).alloc (by first | (simp; done) | (simp; omega)) _)
  have Z0 : ((((w.alloc (.cells #[.int .i64 x1, .int .i64 x2, .int .i64 xu, .int .i64 xs, .int .i64 xk, .int .i64 xh, .int .i64 xn, .string xt, .int .i64 xq] 29)).alloc (.cells #[.int .i64 y1, .int .i64 y2, .int .i64 yu, .int .i64 ys, .int .i64 yk, .int .i64 yh, .int .i64 yn, .string yt, .int .i64 yq] 29)).alloc (.cells #[.int .i64 cu, .int .i64 cs, .int .i64 ck, .int .i64 ch, .int .i64 cn, .string ct] 24)).alloc (.cells #[.int .i64 j1, .int .i64 j2] 26)).heap.size = w.heap.size + 1 + 1 + 1 + 1 := by simp
  have Dx0 : Nb ((((w.alloc (.cells #[.int .i64 x1, .int .i64 x2, .int .i64 xu, .int .i64 xs, .int .i64 xk, .int .i64 xh, .int .i64 xn, .string xt, .int .i64 xq] 29)).alloc (.cells #[.int .i64 y1, .int .i64 y2, .int .i64 yu, .int .i64 ys, .int .i64 yk, .int .i64 yh, .int .i64 yn, .string yt, .int .i64 yq] 29)).alloc (.cells #[.int .i64 cu, .int .i64 cs, .int .i64 ck, .int .i64 ch, .int .i64 cn, .string ct] 24)).alloc (.cells #[.int .i64 j1, .int .i64 j2] 26)) (w.heap.size) ⟨(x1, x2), ⟨xu, xs, xk, xh, xn, xt⟩, xq⟩ := by
    have h1 := nb_new w ⟨(x1, x2), ⟨xu, xs, xk, xh, xn, xt⟩, xq⟩
    exact (((h1.on ((Below.refl _ _).alloc (Nat.le_refl _) _) (by first | (simp; done) | (simp; omega))).on ((Below.refl _ _).alloc (Nat.le_refl _) _) (by first | (simp; done) | (simp; omega))).on ((Below.refl _ _).alloc (Nat.le_refl _) _) (by first | (simp; done) | (simp; omega)))
  have Dy0 : Nb ((((w.alloc (.cells #[.int .i64 x1, .int .i64 x2, .int .i64 xu, .int .i64 xs, .int .i64 xk, .int .i64 xh, .int .i64 xn, .string xt, .int .i64 xq] 29)).alloc (.cells #[.int .i64 y1, .int .i64 y2, .int .i64 yu, .int .i64 ys, .int .i64 yk, .int .i64 yh, .int .i64 yn, .string yt, .int .i64 yq] 29)).alloc (.cells #[.int .i64 cu, .int .i64 cs, .int .i64 ck, .int .i64 ch, .int .i64 cn, .string ct] 24)).alloc (.cells #[.int .i64 j1, .int .i64 j2] 26)) (w.heap.size + 1) ⟨(y1, y2), ⟨yu, ys, yk, yh, yn, yt⟩, yq⟩ := by
    have h1 := nb_new (w.alloc (.cells #[.int .i64 x1, .int .i64 x2, .int .i64 xu, .int .i64 xs, .int .i64 xk, .int .i64 xh, .int .i64 xn, .string xt, .int .i64 xq] 29)) ⟨(y1, y2), ⟨yu, ys, yk, yh, yn, yt⟩, yq⟩
    rw [show (w.alloc (.cells #[.int .i64 x1, .int .i64 x2, .int .i64 xu, .int .i64 xs, .int .i64 xk, .int .i64 xh, .int .i64 xn, .string xt, .int .i64 xq] 29)).heap.size = w.heap.size + 1 by simp] at h1
    exact ((h1.on ((Below.refl _ _).alloc (Nat.le_refl _) _) (by first | (simp; done) | (simp; omega))).on ((Below.refl _ _).alloc (Nat.le_refl _) _) (by first | (simp; done) | (simp; omega)))
  have Dc0 : Cb ((((w.alloc (.cells #[.int .i64 x1, .int .i64 x2, .int .i64 xu, .int .i64 xs, .int .i64 xk, .int .i64 xh, .int .i64 xn, .string xt, .int .i64 xq] 29)).alloc (.cells #[.int .i64 y1, .int .i64 y2, .int .i64 yu, .int .i64 ys, .int .i64 yk, .int .i64 yh, .int .i64 yn, .string yt, .int .i64 yq] 29)).alloc (.cells #[.int .i64 cu, .int .i64 cs, .int .i64 ck, .int .i64 ch, .int .i64 cn, .string ct] 24)).alloc (.cells #[.int .i64 j1, .int .i64 j2] 26)) (w.heap.size + 1 + 1) cu cs ck ch cn ct := by
    have h1 := cb_new ((w.alloc (.cells #[.int .i64 x1, .int .i64 x2, .int .i64 xu, .int .i64 xs, .int .i64 xk, .int .i64 xh, .int .i64 xn, .string xt, .int .i64 xq] 29)).alloc (.cells #[.int .i64 y1, .int .i64 y2, .int .i64 yu, .int .i64 ys, .int .i64 yk, .int .i64 yh, .int .i64 yn, .string yt, .int .i64 yq] 29)) cu cs ck ch cn ct
    rw [show ((w.alloc (.cells #[.int .i64 x1, .int .i64 x2, .int .i64 xu, .int .i64 xs, .int .i64 xk, .int .i64 xh, .int .i64 xn, .string xt, .int .i64 xq] 29)).alloc (.cells #[.int .i64 y1, .int .i64 y2, .int .i64 yu, .int .i64 ys, .int .i64 yk, .int .i64 yh, .int .i64 yn, .string yt, .int .i64 yq] 29)).heap.size = w.heap.size + 1 + 1 by simp] at h1
    exact (h1.on ((Below.refl _ _).alloc (Nat.le_refl _) _) (by first | (simp; done) | (simp; omega)))
  have Dj0 : At.Ib ((((w.alloc (.cells #[.int .i64 x1, .int .i64 x2, .int .i64 xu, .int .i64 xs, .int .i64 xk, .int .i64 xh, .int .i64 xn, .string xt, .int .i64 xq] 29)).alloc (.cells #[.int .i64 y1, .int .i64 y2, .int .i64 yu, .int .i64 ys, .int .i64 yk, .int .i64 yh, .int .i64 yn, .string yt, .int .i64 yq] 29)).alloc (.cells #[.int .i64 cu, .int .i64 cs, .int .i64 ck, .int .i64 ch, .int .i64 cn, .string ct] 24)).alloc (.cells #[.int .i64 j1, .int .i64 j2] 26)) (w.heap.size + 1 + 1 + 1) j1 j2 := by
    have h1 := At.ib_new (((w.alloc (.cells #[.int .i64 x1, .int .i64 x2, .int .i64 xu, .int .i64 xs, .int .i64 xk, .int .i64 xh, .int .i64 xn, .string xt, .int .i64 xq] 29)).alloc (.cells #[.int .i64 y1, .int .i64 y2, .int .i64 yu, .int .i64 ys, .int .i64 yk, .int .i64 yh, .int .i64 yn, .string yt, .int .i64 yq] 29)).alloc (.cells #[.int .i64 cu, .int .i64 cs, .int .i64 ck, .int .i64 ch, .int .i64 cn, .string ct] 24)) j1 j2
    rw [show (((w.alloc (.cells #[.int .i64 x1, .int .i64 x2, .int .i64 xu, .int .i64 xs, .int .i64 xk, .int .i64 xh, .int .i64 xn, .string xt, .int .i64 xq] 29)).alloc (.cells #[.int .i64 y1, .int .i64 y2, .int .i64 yu, .int .i64 ys, .int .i64 yk, .int .i64 yh, .int .i64 yn, .string yt, .int .i64 yq] 29)).alloc (.cells #[.int .i64 cu, .int .i64 cs, .int .i64 ck, .int .i64 ch, .int .i64 cn, .string ct] 24)).heap.size = w.heap.size + 1 + 1 + 1 by simp] at h1
    exact h1
  have N0 := hN.on B0
  go_enter Tryd.func8, Tryd.ntmps8
  go_wp2_with fail
  generalize ((((w.alloc (.cells #[.int .i64 x1, .int .i64 x2, .int .i64 xu, .int .i64 xs, .int .i64 xk, .int .i64 xh, .int .i64 xn, .string xt, .int .i64 xq] 29)).alloc (.cells #[.int .i64 y1, .int .i64 y2, .int .i64 yu, .int .i64 ys, .int .i64 yk, .int .i64 yh, .int .i64 yn, .string yt, .int .i64 yq] 29)).alloc (.cells #[.int .i64 cu, .int .i64 cs, .int .i64 ck, .int .i64 ch, .int .i64 cn, .string ct] 24)).alloc (.cells #[.int .i64 j1, .int .i64 j2] 26)) = W0 at *
  refine (awake_any W0 N0).mono ?_
  rintro e W1 ⟨rfl, B1⟩
  have z1 := B1.size
  have N1 := N0.on B1
  have Dx1 := Dx0.on B1 (by omega)
  have Dy1 := Dy0.on B1 (by omega)
  have Dc1 := Dc0.on B1 (by omega)
  have Dj1 := Dj0.on B1 (by omega)
  have BE := B0.trans (B1.mono (by omega))
  clear Dx0 Dy0 Dc0 Dj0
  have XB1 := XB0.on B1 (by omega)
  clear B1 B0 N0 XB0
  go_wp2_with fail
  refine (H13 _).out.mono ?_
  rintro e W2 ⟨rfl, rfl⟩
  have BN : Below W1.heap.size W1 (W1.alloc (.cells #[.int .i64 n, .map none, .map none] 55)) := (Below.refl _ _).alloc (Nat.le_refl _) _
  have BE2 := BE.trans (BN.mono BE.size)
  have X2 := ix_new W1 n
  have N2 := N1.on BN
  have ZX : W1.heap.size < (W1.alloc (.cells #[.int .i64 n, .map none, .map none] 55)).heap.size := by simp
  have Dx2 := Dx1.on BN (by omega)
  have Dy2 := Dy1.on BN (by omega)
  have Dc2 := Dc1.on BN (by omega)
  have Dj2 := Dj1.on BN (by omega)
  clear Dx1 Dy1 Dc1 Dj1
  have XB2 := XB1.on BN (by omega)
  clear BE N1 BN XB1
  go_wp2_with fail
  generalize (W1.alloc (.cells #[.int .i64 n, .map none, .map none] 55)) = W2 at *
  generalize W1.heap.size = X at *
  refine (H13 _).out.mono ?_
  rintro e W3 ⟨rfl, rfl⟩
  have BN : Below W2.heap.size W2 (W2.alloc (.cells #[.int .i64 n, .map none, .map none] 55)) := (Below.refl _ _).alloc (Nat.le_refl _) _
  have BE3 := BE2.trans (BN.mono BE2.size)
  have X3 := X2.on BN
  have Y3 := ix_new W2 n
  have N3 := N2.on BN
  have ZY : W2.heap.size < (W2.alloc (.cells #[.int .i64 n, .map none, .map none] 55)).heap.size := by simp
  clear BN X3 Y3 N3 BE3 H13
  obtain ⟨gx0, gx1, gx2, gx3, gx4, gx5, gx6, gx7, gx8⟩ := id Dx2
  obtain ⟨gy0, gy1, gy2, gy3, gy4, gy5, gy6, gy7, gy8⟩ := id Dy2
  have ya0 : w.heap.size < W2.heap.size := by omega
  have yb0 : w.heap.size + 1 < W2.heap.size := by omega
  have fr0 := XB2.free 0
  have fr1 := XB2.free 1
  have hxw : w.heap.size + 1 + 1 + 1 < X := by omega
  have hw0 : 1 ≤ w.heap.size := hN.pos
  have hneb : w.heap.size ≠ w.heap.size + 1 := by omega
  go_wp2_with fail
  clear gx0 gx1 gx2 gx3 gx4 gx5 gx6 gx7 gx8
  clear gy0 gy1 gy2 gy3 gy4 gy5 gy6 gy7 gy8
  have OS : Off (fun r => r = w.heap.size + 1) W2 ((W2.setCell ⟨w.heap.size + 1, 0, none⟩ (.int .i64 x1)).setCell ⟨w.heap.size + 1, 1, none⟩ (.int .i64 x2)) := ((Off.refl (fun r => r = w.heap.size + 1) W2).cell (p := ⟨w.heap.size + 1, 0, none⟩) rfl _).cell (p := ⟨w.heap.size + 1, 1, none⟩) rfl _
  have ZS : ((W2.setCell ⟨w.heap.size + 1, 0, none⟩ (.int .i64 x1)).setCell ⟨w.heap.size + 1, 1, none⟩ (.int .i64 x2)).heap.size = W2.heap.size := by simp
  have BN : Below ((W2.setCell ⟨w.heap.size + 1, 0, none⟩ (.int .i64 x1)).setCell ⟨w.heap.size + 1, 1, none⟩ (.int .i64 x2)).heap.size ((W2.setCell ⟨w.heap.size + 1, 0, none⟩ (.int .i64 x1)).setCell ⟨w.heap.size + 1, 1, none⟩ (.int .i64 x2)) (((W2.setCell ⟨w.heap.size + 1, 0, none⟩ (.int .i64 x1)).setCell ⟨w.heap.size + 1, 1, none⟩ (.int .i64 x2)).alloc (.cells #[.int .i64 n, .map none, .map none] 55)) := (Below.refl _ _).alloc (Nat.le_refl _) _
  have X4 : Ix (((W2.setCell ⟨w.heap.size + 1, 0, none⟩ (.int .i64 x1)).setCell ⟨w.heap.size + 1, 1, none⟩ (.int .i64 x2)).alloc (.cells #[.int .i64 n, .map none, .map none] 55)) X n [] (fun r => r = X) := (X2.off OS (fun r h1 h2 => by omega)).on BN
  have Y4 : Ix (((W2.setCell ⟨w.heap.size + 1, 0, none⟩ (.int .i64 x1)).setCell ⟨w.heap.size + 1, 1, none⟩ (.int .i64 x2)).alloc (.cells #[.int .i64 n, .map none, .map none] 55)) W2.heap.size n [] (fun r => r = W2.heap.size) := by have h1 := ix_new ((W2.setCell ⟨w.heap.size + 1, 0, none⟩ (.int .i64 x1)).setCell ⟨w.heap.size + 1, 1, none⟩ (.int .i64 x2)) n; rw [ZS] at h1; exact h1
  have Dx4 := (Dx2.off OS (by omega)).on BN (by omega)
  have Dc4 := (off_cb Dc2 OS (by omega)).on BN (by omega)
  have Dj4 := (Off.ib Dj2 OS (by omega)).on BN (by omega)
  have Dy4 : Nx (((W2.setCell ⟨w.heap.size + 1, 0, none⟩ (.int .i64 x1)).setCell ⟨w.heap.size + 1, 1, none⟩ (.int .i64 x2)).alloc (.cells #[.int .i64 n, .map none, .map none] 55)) (w.heap.size + 1) ⟨(x1, x2), ⟨yu, ys, yk, yh, yn, yt⟩, yq⟩ := Nx.on (XB2.set (x1, x2)) BN (by omega)
  have N4 := (N2.below (B := 1) (OS.below (fun r h => by omega) (by omega)) (by omega)).on BN
  have BE4 := BE2.trans ((OS.below (D := w.heap.size) (fun r h => by omega) (by omega)).trans (BN.mono (by omega)))
  have HS := Lib.hid ((hs.below BE4 (Nat.le_refl _)).mono (show w.heap.size ≤ X by omega))
  have T4 : Two X X W2.heap.size n [] [] (fun r => r = X) (fun r => r = W2.heap.size) (((W2.setCell ⟨w.heap.size + 1, 0, none⟩ (.int .i64 x1)).setCell ⟨w.heap.size + 1, 1, none⟩ (.int .i64 x2)).alloc (.cells #[.int .i64 n, .map none, .map none] 55)) (((W2.setCell ⟨w.heap.size + 1, 0, none⟩ (.int .i64 x1)).setCell ⟨w.heap.size + 1, 1, none⟩ (.int .i64 x2)).alloc (.cells #[.int .i64 n, .map none, .map none] 55)) := ⟨X4, Y4, (fun r h1 h2 => by omega), (fun r h => by omega), (fun r h => by omega), Below.refl _ _⟩
  have HLW := Lib.hid hlow
  clear OS BN X4 Y4 X2 N2 XB2 BE2 hs Dx2 Dy2 Dc2 Dj2 hlow fr0 fr1 hN ZS
  generalize (((W2.setCell ⟨w.heap.size + 1, 0, none⟩ (.int .i64 x1)).setCell ⟨w.heap.size + 1, 1, none⟩ (.int .i64 x2)).alloc (.cells #[.int .i64 n, .map none, .map none] 55)) = W4 at *
  generalize W2.heap.size = Y at *
  have hX1 : 1 ≤ X := by omega
  refine (T4.put N4 hX1 ⟨(x1, x2), ⟨xu, xs, xk, xh, xn, xt⟩, xq⟩ hqa).mono ?_
  rintro e W5 ⟨rfl, Ox5, T5⟩
  have hl' : l.length ≤ 60 := by omega
  go_wp2_with fail
  go_loopw [16] (fun tt wr => ∃ (p : Nat) (Ox Oy : Nat → Prop), p ≤ l.length ∧ tt = .int .i64 (p : Int) ∧ Two X X Y n (lq (am n) (pt (am n) [] ⟨(x1, x2), ⟨xu, xs, xk, xh, xn, xt⟩, xq⟩) (l.take p)) (lq (am n) [] (l.take p)) Ox Oy W4 wr) (fun tt _ => 61 - (intOf tt).toNat)
  case atStart => exact ⟨0, _, _, Nat.zero_le _, rfl, T5⟩
  case round =>
    obtain ⟨p, Ox, Oy, hp, rfl, hT⟩ := hrel
    have BX := BE4.trans (hT.b.mono (show w.heap.size ≤ X by omega))
    clear T4 T5
    by_cases hlp : p < l.length
    · have hlpi : (p : Int) < (l.length : Int) := by omega
      have hp0 : (0 : Int) ≤ (p : Int) := by omega
      have zX := hT.x.lt X hT.x.own
      rcases (HS.out.below hT.b (Nat.le_refl _)) with rfl | ⟨b, off, rfl, hb', hc⟩
      · simp at hlp
      have hcell := hc p l[p] (List.getElem?_eq_getElem hlp)
      have hlw := HLW.out l[p] (List.getElem_mem hlp)
      have HL1 := Lib.hid (lq_take (N := am n) (L := pt (am n) [] ⟨(x1, x2), ⟨xu, xs, xk, xh, xn, xt⟩, xq⟩) hlp)
      have HL2 := Lib.hid (lq_take (N := am n) (L := []) hlp)
      have HPx := Lib.hid (hT.put N4 hX1 l[p] hlw)
      have HPy : ∀ Ox' V, Two X X Y n (pt (am n) (lq (am n) (pt (am n) [] ⟨(x1, x2), ⟨xu, xs, xk, xh, xn, xt⟩, xq⟩) (l.take p)) l[p]) (lq (am n) [] (l.take p)) Ox' Oy W4 V → Hid (Calls Tryd.prog 14 #[.pointer (some ⟨Y, 0, none⟩), nv l[p]] V fun e V' => e = .returned (.tuple #[]) ∧ ∃ Oy', Two X X Y n (pt (am n) (lq (am n) (pt (am n) [] ⟨(x1, x2), ⟨xu, xs, xk, xh, xn, xt⟩, xq⟩) (l.take p)) l[p]) (pt (am n) (lq (am n) [] (l.take p)) l[p]) Ox' Oy' W4 V') := fun Ox' V h => h.put2 N4 hX1 l[p] hlw
      have hbw : b < wr.heap.size := by omega
      clear hc
      generalize l[p] = v at *
      obtain ⟨⟨v1, v2⟩, ⟨vu, vs, vk, vh, vn, vt⟩, vq⟩ := v
      obtain ⟨e0, e1, e2, e3, e4, e5, e6, e7, e8⟩ := id hcell
      by_cases hq : 1099511627776 < vq
      · go_wp2
        go_ret
        exact ⟨rfl, BX⟩
      · go_wp2_with fail
        clear e0 e1 e2 e3 e4 e5 e6 e7 e8
        refine HPx.out.mono ?_
        rintro e Va ⟨rfl, Ox', Ta⟩
        have hca : Nr Va b (off + p * 9) ⟨(v1, v2), ⟨vu, vs, vk, vh, vn, vt⟩, vq⟩ := hcell.of ((Ta.b.block b hb').trans (hT.b.block b hb').symm)
        have hba : b < Va.heap.size := by have := Ta.x.lt X Ta.x.own; omega
        obtain ⟨e0, e1, e2, e3, e4, e5, e6, e7, e8⟩ := id hca
        clear HPx hcell
        go_wp2_with fail
        clear e0 e1 e2 e3 e4 e5 e6 e7 e8
        refine (HPy _ _ Ta).out.mono ?_
        rintro e Vb ⟨rfl, Oy', Tb⟩
        clear HPy Ta hca
        go_wp2
        go_roundw
        case rel => exact ⟨p + 1, Ox', Oy', by omega, by go_num, by rw [HL1.out, HL2.out]; exact Tb⟩
        case measure => simp [intOf]; omega
    · obtain rfl : p = l.length := by omega
      rw [List.take_length] at hT
      have HEQ : Hid (pt (am n) (lq (am n) (pt (am n) [] ⟨(x1, x2), ⟨xu, xs, xk, xh, xn, xt⟩, xq⟩) l) ⟨(x1, x2), ⟨yu, ys, yk, yh, yn, yt⟩, yq⟩ = pt (am n) (lq (am n) [] l) ⟨(x1, x2), ⟨yu, ys, yk, yh, yn, yt⟩, yq⟩) := place (am n) ⟨(x1, x2), ⟨xu, xs, xk, xh, xn, xt⟩, xq⟩ ⟨(x1, x2), ⟨yu, ys, yk, yh, yn, yt⟩, yq⟩ l rfl
      have HPx := Lib.hid (hT.put N4 hX1 ⟨(x1, x2), ⟨yu, ys, yk, yh, yn, yt⟩, yq⟩ hqb)
      have HPy : ∀ Lx Ox' V, Two X X Y n Lx (lq (am n) [] l) Ox' Oy W4 V → Hid (Calls Tryd.prog 14 #[.pointer (some ⟨Y, 0, none⟩), nv ⟨(x1, x2), ⟨yu, ys, yk, yh, yn, yt⟩, yq⟩] V fun e V' => e = .returned (.tuple #[]) ∧ ∃ Oy', Two X X Y n Lx (pt (am n) (lq (am n) [] l) ⟨(x1, x2), ⟨yu, ys, yk, yh, yn, yt⟩, yq⟩) Ox' Oy' W4 V') := fun Lx Ox' V h => h.put2 N4 hX1 ⟨(x1, x2), ⟨yu, ys, yk, yh, yn, yt⟩, yq⟩ hqb
      rw [HEQ.out] at HPx
      have Dya := Dy4.on hT.b (by omega)
      have zX := hT.x.lt X hT.x.own
      generalize pt (am n) (lq (am n) [] l) ⟨(x1, x2), ⟨yu, ys, yk, yh, yn, yt⟩, yq⟩ = Fx at *
      generalize lq (am n) [] l = L0 at *
      generalize lq (am n) (pt (am n) [] ⟨(x1, x2), ⟨xu, xs, xk, xh, xn, xt⟩, xq⟩) l = L1 at *
      clear HEQ HLW HS
      obtain ⟨e0, e1, e2, e3, e4, e5, e6, e7, e8⟩ := id Dya.nb
      go_wp2_with fail
      clear e0 e1 e2 e3 e4 e5 e6 e7 e8
      refine HPx.out.mono ?_
      rintro e Va ⟨rfl, Ox', Ta⟩
      have Dyb := Dy4.on Ta.b (by omega)
      have zXa := Ta.x.lt X Ta.x.own
      obtain ⟨e0, e1, e2, e3, e4, e5, e6, e7, e8⟩ := id Dyb.nb
      clear HPx
      go_wp2_with fail
      clear e0 e1 e2 e3 e4 e5 e6 e7 e8
      refine (HPy _ _ _ Ta).out.mono ?_
      rintro e V ⟨rfl, Oy', T9⟩
      have Dc9 := Dc4.on T9.b (by omega)
      have Dj9 := Dj4.on T9.b (by omega)
      have BX9 := BE4.trans (T9.b.mono (show w.heap.size ≤ X by omega))
      clear HPy Ta Dya Dyb hT BX Dx4 Dy4 Dc4 Dj4
      obtain ⟨Fy, hFy⟩ : ∃ Fy, Fy = Fx := ⟨_, rfl⟩
      have T9' : Two X X Y n Fx Fy Ox' Oy' W4 V := by rw [hFy]; exact T9
      have HUQ : Hid (∀ i q, Pq (N : Int) Fx ⟨cu, cs, ck, ch, cn, ct⟩ (j1, j2) i q ↔ Pq (N : Int) Fy ⟨cu, cs, ck, ch, cn, ct⟩ (j1, j2) i q) := fun i q => by rw [hFy]
      have HFL : Hid (Fy.length = Fx.length) := by show _ = _; rw [hFy]
      clear hFy T9
      rename_i T9
      have T9 := T9'
      clear T9'
      generalize Ox' = Ox at *
      generalize Oy' = Oy at *
      have zcX : w.heap.size + 1 + 1 < X := by omega
      have zjX : w.heap.size + 1 + 1 + 1 < X := by omega
      have hX1' : 1 ≤ X := hX1
      have S0 : (V.cell? ⟨w.heap.size + 1 + 1, 0, none⟩ = some (.int .i64 cu) ∧ V.cell? ⟨w.heap.size + 1 + 1, 1, none⟩ = some (.int .i64 cs) ∧ V.cell? ⟨w.heap.size + 1 + 1, 2, none⟩ = some (.int .i64 ck) ∧ V.cell? ⟨w.heap.size + 1 + 1, 3, none⟩ = some (.int .i64 ch) ∧ V.cell? ⟨w.heap.size + 1 + 1, 4, none⟩ = some (.int .i64 cn) ∧ V.cell? ⟨w.heap.size + 1 + 1, 5, none⟩ = some (.string ct)) ∧ (V.cell? ⟨w.heap.size + 1 + 1 + 1, 0, none⟩ = some (.int .i64 j1) ∧ V.cell? ⟨w.heap.size + 1 + 1 + 1, 1, none⟩ = some (.int .i64 j2)) ∧ Two X X Y n Fx Fy Ox Oy W4 V := ⟨Dc9, Dj9, T9⟩
      have KD : Hid (∀ v, ((v.cell? ⟨w.heap.size + 1 + 1, 0, none⟩ = some (.int .i64 cu) ∧ v.cell? ⟨w.heap.size + 1 + 1, 1, none⟩ = some (.int .i64 cs) ∧ v.cell? ⟨w.heap.size + 1 + 1, 2, none⟩ = some (.int .i64 ck) ∧ v.cell? ⟨w.heap.size + 1 + 1, 3, none⟩ = some (.int .i64 ch) ∧ v.cell? ⟨w.heap.size + 1 + 1, 4, none⟩ = some (.int .i64 cn) ∧ v.cell? ⟨w.heap.size + 1 + 1, 5, none⟩ = some (.string ct)) ∧ (v.cell? ⟨w.heap.size + 1 + 1 + 1, 0, none⟩ = some (.int .i64 j1) ∧ v.cell? ⟨w.heap.size + 1 + 1 + 1, 1, none⟩ = some (.int .i64 j2)) ∧ Two X X Y n Fx Fy Ox Oy W4 v) → ((v.drew.cell? ⟨w.heap.size + 1 + 1, 0, none⟩ = some (.int .i64 cu) ∧ v.drew.cell? ⟨w.heap.size + 1 + 1, 1, none⟩ = some (.int .i64 cs) ∧ v.drew.cell? ⟨w.heap.size + 1 + 1, 2, none⟩ = some (.int .i64 ck) ∧ v.drew.cell? ⟨w.heap.size + 1 + 1, 3, none⟩ = some (.int .i64 ch) ∧ v.drew.cell? ⟨w.heap.size + 1 + 1, 4, none⟩ = some (.int .i64 cn) ∧ v.drew.cell? ⟨w.heap.size + 1 + 1, 5, none⟩ = some (.string ct)) ∧ (v.drew.cell? ⟨w.heap.size + 1 + 1 + 1, 0, none⟩ = some (.int .i64 j1) ∧ v.drew.cell? ⟨w.heap.size + 1 + 1 + 1, 1, none⟩ = some (.int .i64 j2)) ∧ Two X X Y n Fx Fy Ox Oy W4 v.drew)) := fun v hS => keepTd hS
      have KS : Hid (∀ v v', Below v.heap.size v v' → ((v.cell? ⟨w.heap.size + 1 + 1, 0, none⟩ = some (.int .i64 cu) ∧ v.cell? ⟨w.heap.size + 1 + 1, 1, none⟩ = some (.int .i64 cs) ∧ v.cell? ⟨w.heap.size + 1 + 1, 2, none⟩ = some (.int .i64 ck) ∧ v.cell? ⟨w.heap.size + 1 + 1, 3, none⟩ = some (.int .i64 ch) ∧ v.cell? ⟨w.heap.size + 1 + 1, 4, none⟩ = some (.int .i64 cn) ∧ v.cell? ⟨w.heap.size + 1 + 1, 5, none⟩ = some (.string ct)) ∧ (v.cell? ⟨w.heap.size + 1 + 1 + 1, 0, none⟩ = some (.int .i64 j1) ∧ v.cell? ⟨w.heap.size + 1 + 1 + 1, 1, none⟩ = some (.int .i64 j2)) ∧ Two X X Y n Fx Fy Ox Oy W4 v) → ((v'.cell? ⟨w.heap.size + 1 + 1, 0, none⟩ = some (.int .i64 cu) ∧ v'.cell? ⟨w.heap.size + 1 + 1, 1, none⟩ = some (.int .i64 cs) ∧ v'.cell? ⟨w.heap.size + 1 + 1, 2, none⟩ = some (.int .i64 ck) ∧ v'.cell? ⟨w.heap.size + 1 + 1, 3, none⟩ = some (.int .i64 ch) ∧ v'.cell? ⟨w.heap.size + 1 + 1, 4, none⟩ = some (.int .i64 cn) ∧ v'.cell? ⟨w.heap.size + 1 + 1, 5, none⟩ = some (.string ct)) ∧ (v'.cell? ⟨w.heap.size + 1 + 1 + 1, 0, none⟩ = some (.int .i64 j1) ∧ v'.cell? ⟨w.heap.size + 1 + 1 + 1, 1, none⟩ = some (.int .i64 j2)) ∧ Two X X Y n Fx Fy Ox Oy W4 v')) := fun v v' hb hS => keepT zcX zjX hS hb
      have H16x : ∀ v, ((v.cell? ⟨w.heap.size + 1 + 1, 0, none⟩ = some (.int .i64 cu) ∧ v.cell? ⟨w.heap.size + 1 + 1, 1, none⟩ = some (.int .i64 cs) ∧ v.cell? ⟨w.heap.size + 1 + 1, 2, none⟩ = some (.int .i64 ck) ∧ v.cell? ⟨w.heap.size + 1 + 1, 3, none⟩ = some (.int .i64 ch) ∧ v.cell? ⟨w.heap.size + 1 + 1, 4, none⟩ = some (.int .i64 cn) ∧ v.cell? ⟨w.heap.size + 1 + 1, 5, none⟩ = some (.string ct)) ∧ (v.cell? ⟨w.heap.size + 1 + 1 + 1, 0, none⟩ = some (.int .i64 j1) ∧ v.cell? ⟨w.heap.size + 1 + 1 + 1, 1, none⟩ = some (.int .i64 j2)) ∧ Two X X Y n Fx Fy Ox Oy W4 v) → Hid (Calls Tryd.prog 16 #[.pointer (some ⟨X, 0, none⟩), (cv cu cs ck ch cn ct), (.agg #[.int .i64 j1, .int .i64 j2])] v (AtP v (Pq (N : Int) Fx ⟨cu, cs, ck, ch, cn, ct⟩ (j1, j2)) N)) := fun v hS => by have := attr_any X N n Fx Ox ⟨cu, cs, ck, ch, cn, ct⟩ (j1, j2) v (N4.below hS.2.2.b (by omega)) hS.2.2.x hn h7; rw [hn] at this; exact this
      have H16y : ∀ v, ((v.cell? ⟨w.heap.size + 1 + 1, 0, none⟩ = some (.int .i64 cu) ∧ v.cell? ⟨w.heap.size + 1 + 1, 1, none⟩ = some (.int .i64 cs) ∧ v.cell? ⟨w.heap.size + 1 + 1, 2, none⟩ = some (.int .i64 ck) ∧ v.cell? ⟨w.heap.size + 1 + 1, 3, none⟩ = some (.int .i64 ch) ∧ v.cell? ⟨w.heap.size + 1 + 1, 4, none⟩ = some (.int .i64 cn) ∧ v.cell? ⟨w.heap.size + 1 + 1, 5, none⟩ = some (.string ct)) ∧ (v.cell? ⟨w.heap.size + 1 + 1 + 1, 0, none⟩ = some (.int .i64 j1) ∧ v.cell? ⟨w.heap.size + 1 + 1 + 1, 1, none⟩ = some (.int .i64 j2)) ∧ Two X X Y n Fx Fy Ox Oy W4 v) → Hid (Calls Tryd.prog 16 #[.pointer (some ⟨Y, 0, none⟩), (cv cu cs ck ch cn ct), (.agg #[.int .i64 j1, .int .i64 j2])] v (AtP v (Pq (N : Int) Fy ⟨cu, cs, ck, ch, cn, ct⟩ (j1, j2)) N)) := fun v hS => by have := attr_any Y N n Fy Oy ⟨cu, cs, ck, ch, cn, ct⟩ (j1, j2) v (N4.below hS.2.2.b (by omega)) hS.2.2.y hn h7; rw [hn] at this; exact this
      have H21 : ∀ (v : World) g1 g2 s (ds : List Int), ds.length = N → At.Rx v g1 ds → At.Rx v g2 ds → Hid (Calls Tryd.prog 21 #[.agg #[.int .i64 s, .slice (some ⟨g1, 0, none⟩) N N], .agg #[.int .i64 s, .slice (some ⟨g2, 0, none⟩) N N]] v (BoolPost v true)) := fun v g1 g2 s ds h1 h2 h3 => same_yes2 N h7 v g1 g2 s ds h1 h2 h3 (fun a b A A' c c' xs ys w h1 h2 h3 h4 => At.same_any a b A A' c c' xs ys w h1 h2 h3 h4)
      have H17x : ∀ v, ((v.cell? ⟨w.heap.size + 1 + 1, 0, none⟩ = some (.int .i64 cu) ∧ v.cell? ⟨w.heap.size + 1 + 1, 1, none⟩ = some (.int .i64 cs) ∧ v.cell? ⟨w.heap.size + 1 + 1, 2, none⟩ = some (.int .i64 ck) ∧ v.cell? ⟨w.heap.size + 1 + 1, 3, none⟩ = some (.int .i64 ch) ∧ v.cell? ⟨w.heap.size + 1 + 1, 4, none⟩ = some (.int .i64 cn) ∧ v.cell? ⟨w.heap.size + 1 + 1, 5, none⟩ = some (.string ct)) ∧ (v.cell? ⟨w.heap.size + 1 + 1 + 1, 0, none⟩ = some (.int .i64 j1) ∧ v.cell? ⟨w.heap.size + 1 + 1 + 1, 1, none⟩ = some (.int .i64 j2)) ∧ Two X X Y n Fx Fy Ox Oy W4 v) → Hid (Calls Tryd.prog 17 #[.pointer (some ⟨X, 0, none⟩)] v fun e w' => e = .returned (.int .i64 (Fx.length : Int)) ∧ w' = v) := fun v hS => len_any X n Fx Ox v hS.2.2.x
      have H17y : ∀ v, ((v.cell? ⟨w.heap.size + 1 + 1, 0, none⟩ = some (.int .i64 cu) ∧ v.cell? ⟨w.heap.size + 1 + 1, 1, none⟩ = some (.int .i64 cs) ∧ v.cell? ⟨w.heap.size + 1 + 1, 2, none⟩ = some (.int .i64 ck) ∧ v.cell? ⟨w.heap.size + 1 + 1, 3, none⟩ = some (.int .i64 ch) ∧ v.cell? ⟨w.heap.size + 1 + 1, 4, none⟩ = some (.int .i64 cn) ∧ v.cell? ⟨w.heap.size + 1 + 1, 5, none⟩ = some (.string ct)) ∧ (v.cell? ⟨w.heap.size + 1 + 1 + 1, 0, none⟩ = some (.int .i64 j1) ∧ v.cell? ⟨w.heap.size + 1 + 1 + 1, 1, none⟩ = some (.int .i64 j2)) ∧ Two X X Y n Fx Fy Ox Oy W4 v) → Hid (Calls Tryd.prog 17 #[.pointer (some ⟨Y, 0, none⟩)] v fun e w' => e = .returned (.int .i64 (Fy.length : Int)) ∧ w' = v) := fun v hS => len_any Y n Fy Oy v hS.2.2.y
      obtain ⟨⟨g0, g1, g2, g3, g4, g5⟩, ⟨i0, i1⟩, _⟩ := id S0
      have hXY : ¬ X = Y := fun e => T9.d X T9.x.own (by rw [e]; exact T9.y.own)
      clear Dc9 Dj9
      go_wp2_with fail
      go_region_held3 (fun v => ((v.cell? ⟨w.heap.size + 1 + 1, 0, none⟩ = some (.int .i64 cu) ∧ v.cell? ⟨w.heap.size + 1 + 1, 1, none⟩ = some (.int .i64 cs) ∧ v.cell? ⟨w.heap.size + 1 + 1, 2, none⟩ = some (.int .i64 ck) ∧ v.cell? ⟨w.heap.size + 1 + 1, 3, none⟩ = some (.int .i64 ch) ∧ v.cell? ⟨w.heap.size + 1 + 1, 4, none⟩ = some (.int .i64 cn) ∧ v.cell? ⟨w.heap.size + 1 + 1, 5, none⟩ = some (.string ct)) ∧ (v.cell? ⟨w.heap.size + 1 + 1 + 1, 0, none⟩ = some (.int .i64 j1) ∧ v.cell? ⟨w.heap.size + 1 + 1 + 1, 1, none⟩ = some (.int .i64 j2)) ∧ Two X X Y n Fx Fy Ox Oy W4 v))
        (first | (exact S0) | (exact KD.out _ S0) | (refine KD.out _ ?_; assumption) | assumption | (refine KS.out _ _ hb3 ?_; first | assumption | (refine KS.out _ _ hb2 ?_; refine KS.out _ _ hb1 ?_; exact KD.out _ S0)) | (refine KS.out _ _ hb2 ?_; first | assumption | (refine KS.out _ _ hb1 ?_; exact KD.out _ S0)) | (refine KS.out _ _ hb1 ?_; first | assumption | exact KD.out _ S0))
        (first | (go_at_call 16; (with_reducible refine (H16x _ ?_).out.mono ?_); (focus (first | assumption | exact KD.out _ S0)); rintro e va ⟨sa, da, ga, rfl, Ra, hga, hb1, Ia⟩) | (go_at_call 16; (with_reducible refine (H16y _ ?_).out.mono ?_); (focus (first | assumption | (refine KS.out _ _ hb1 ?_; first | assumption | exact KD.out _ S0))); rintro e vb ⟨sb, db, gb, rfl, Rb, hgb, hb2, Ib⟩; obtain ⟨rfl, rfl⟩ := Ia.uniq Ib HUQ.out) | (go_at_call 21; (with_reducible refine (H21 _ _ _ _ _ Ia.len (rx_up Ra hb2) Rb).out.mono ?_); rintro e vc ⟨rfl, hb3⟩) | (go_at_call 17; (with_reducible refine (H17x _ ?_).out.mono ?_); (focus (first | assumption | (refine KS.out _ _ hb3 ?_; assumption))); rintro e vd ⟨rfl, rfl⟩) | (go_at_call 17; (with_reducible refine (H17y _ ?_).out.mono ?_); (focus (first | assumption | (refine KS.out _ _ hb3 ?_; assumption))); rintro e ve ⟨rfl, rfl⟩))
      rename_i hSx
      have BXe := BE4.trans (hSx.2.2.b.mono (show w.heap.size ≤ X by omega))
      go_wp2
      go_ret
      refine ⟨?_, BXe⟩
      have hfl := HFL.out
      simp [hfl]

theorem walk (A : Option Addr) (cp : Nat) (l : List Kn) (a b : Kn) (c : Cd) (j : Int × Int) (n : Int) (w : World) (hN : Nd w) (hs : Ns w w.heap.size A l) (hlow : ∀ k ∈ l, -9223372036854775808 ≤ k.q) (hqa : -9223372036854775808 ≤ a.q) (hqb : -9223372036854775808 ≤ b.q) (hw : (Lit.int .i64 n).wf = true) : Calls Tryd.prog 8 #[.slice A l.length cp, nv a, nv b, cv c.u c.s c.k c.h c.n c.t, iv j, .int .i64 n] w (UpPost w) := by
  obtain ⟨N, hn, _, h7⟩ := am_nat n
  by_cases hl : (60 : Int) < (l.length : Int)
  · exact early1 A cp l _ _ _ _ _ _ _ _ _ _ _ _ _ _ _ _ _ _ _ _ _ _ _ _ _ _ n w hN hl
  · by_cases ha : 1099511627776 < a.q
    · exact early2 A cp l _ _ _ _ _ _ _ _ _ _ _ _ _ _ _ _ _ _ _ _ _ _ _ _ _ _ n w hN hl ha
    · by_cases hb : 1099511627776 < b.q
      · exact early3 A cp l _ _ _ _ _ _ _ _ _ _ _ _ _ _ _ _ _ _ _ _ _ _ _ _ _ _ n w hN hl ha hb
      · exact rest N A cp l _ _ _ _ _ _ _ _ _ _ _ _ _ _ _ _ _ _ _ _ _ _ _ _ _ _ n w hN hl ha hb hn h7 hs hlow hqa hqb

set_option maxRecDepth 100000 in
theorem lifted (os : Os) (started : os.Started) (H : Type) (enc : TypeId × Value → H) :
    ReturnsInHanded {} Tryd.checked os 8 .any (fun w args => (Rows.indexPlaceSpec.pre enc Tryd.prog Tryd.f8 [] false w args ∧ laidMetH Tryd.prog laid4 w) ∧ sizedMet enc Tryd.prog Tryd.f8 (OpenSpec.ofChange Rows.indexPlaceSpec) false w args)
      (Rows.indexPlaceSpec.post enc Tryd.prog Tryd.f8 false true false false) := by
  refine returnsInHanded_of_change_and (C := Tryd.checked) (X := fun w _ => laidMetH Tryd.prog laid4 w) (fun _ _ _ hh h => h.of_heap hh) own started (by kernel_rfl) Tryd.func8
    (ChangeSpec.witness_shaped (enc := enc) (C := Tryd.checked) (os := os) (X := fun w _ => laidMetH Tryd.prog laid4 w) false (World.doorLaid Tryd.prog 18 os) #[.slice none 0 0, .agg #[.int .i64 0, .int .i64 0, .int .i64 0, .int .i64 0, .int .i64 0, .int .i64 0, .int .i64 0, .string ⟨#[]⟩, .int .i64 0], .agg #[.int .i64 0, .int .i64 0, .int .i64 0, .int .i64 0, .int .i64 0, .int .i64 0, .int .i64 0, .string ⟨#[]⟩, .int .i64 0], .agg #[.int .i64 0, .int .i64 0, .int .i64 0, .int .i64 0, .int .i64 0, .string ⟨#[]⟩], .agg #[.int .i64 0, .int .i64 0], .int .i64 0] 8 rfl (World.shaped_of_RefB (by kernel_rfl) (by kernel_rfl)) (by kernel_rfl) (by kernel_rfl) (by kernel_rfl) (door_met os _)) ?_
  intro W base args ds gs before hval0 hW _ _ hL _
  have hN := nd_of_laid hL
  have hval : ∀ (j : Nat) t v, Tryd.f8.params[j]? = some t → args[j]? = some v → Value.okWide Tryd.prog W .any base t v := hval0
  have hW' := hW
  obtain ⟨p, q, hA0, hV, rfl, hfz, hnd⟩ := hW
  have hA : DataW.TrodAll enc Tryd.prog W 0 (fun _ => true) true Tryd.f8.params.toList args.toList ds p := hA0
  rw [Tryd.params8] at hA hval
  obtain ⟨v0, vs0, d0, ds0, p0, q0, hargs, rfl, rfl, h0, r0⟩ := trodAll_cons hA
  obtain ⟨v1, vs1, d1, ds1, p1, q1, rfl, rfl, rfl, h1, r1⟩ := trodAll_cons r0
  obtain ⟨v2, vs2, d2, ds2, p2, q2, rfl, rfl, rfl, h2, r2⟩ := trodAll_cons r1
  obtain ⟨v3, vs3, d3, ds3, p3, q3, rfl, rfl, rfl, h3, r3⟩ := trodAll_cons r2
  obtain ⟨v4, vs4, d4, ds4, p4, q4, rfl, rfl, rfl, h4, r4⟩ := trodAll_cons r3
  obtain ⟨v5, vs5, d5, ds5, p5, q5, rfl, rfl, rfl, h5, r5⟩ := trodAll_cons r4
  obtain ⟨rfl, rfl, rfl⟩ := trodAll_nil r5
  obtain rfl : args = #[v0, v1, v2, v3, v4, v5] := by cases args; simp_all
  obtain ⟨rfl, rfl⟩ := trodVars_none hV
  have k0' := h0
  have lt0 : ∀ x ∈ p0, x.block < W.heap.size := by obtain ⟨m, hm⟩ := k0'; exact DataW.trod_lt m _ _ _ hm
  obtain ⟨A0, c0, l0, rfl, s0', m0, y0⟩ := open_kns (hval 0 22 v0 rfl rfl) h0
  have k1' := h1
  have lt1 : ∀ x ∈ p1, x.block < W.heap.size := by obtain ⟨m, hm⟩ := k1'; exact DataW.trod_lt m _ _ _ hm
  obtain ⟨x1, rfl, q1, r1'⟩ := open_kn (hval 1 29 v1 rfl rfl) h1
  have k2' := h2
  have lt2 : ∀ x ∈ p2, x.block < W.heap.size := by obtain ⟨m, hm⟩ := k2'; exact DataW.trod_lt m _ _ _ hm
  obtain ⟨x2, rfl, q2, r2'⟩ := open_kn (hval 2 29 v2 rfl rfl) h2
  have k3' := h3
  have lt3 : ∀ x ∈ p3, x.block < W.heap.size := by obtain ⟨m, hm⟩ := k3'; exact DataW.trod_lt m _ _ _ hm
  obtain ⟨x3, rfl⟩ := open_cmd (hval 3 24 v3 rfl rfl) h3
  have k4' := h4
  have lt4 : ∀ x ∈ p4, x.block < W.heap.size := by obtain ⟨m, hm⟩ := k4'; exact DataW.trod_lt m _ _ _ hm
  obtain ⟨x4, rfl⟩ := open_inst (hval 4 26 v4 rfl rfl) h4
  obtain ⟨a5, rfl, rfl, rfl, w5⟩ := open_int Tryd.underlying3 (hval 5 3 v5 rfl rfl) h5
  clear hA0 hval0
  refine (walk A0 c0 l0 x1 x2 x3 x4 a5 W hN s0' y0 q1 q2   w5).mono fun e W' ⟨he, bel⟩ => ?_
  subst he
  exact ⟨_, rfl, _, _, _, [], _, [], hW', trodAll_mk1 (shut_bool Tryd.underlying4 _), (trodAll_cons_mk (Below.trod laidOut (by kernel_rfl) (of_decide_eq_true (by kernel_rfl)) k0' bel lt0) (trodAll_cons_mk (Below.trod laidOut (by kernel_rfl) (of_decide_eq_true (by kernel_rfl)) k1' bel lt1) (trodAll_cons_mk (Below.trod laidOut (by kernel_rfl) (of_decide_eq_true (by kernel_rfl)) k2' bel lt2) (trodAll_cons_mk (Below.trod laidOut (by kernel_rfl) (of_decide_eq_true (by kernel_rfl)) k3' bel lt3) (trodAll_cons_mk (Below.trod laidOut (by kernel_rfl) (of_decide_eq_true (by kernel_rfl)) k4' bel lt4) (trodAll_cons_mk (shut_int Tryd.underlying3 w5) trodAll_mk0)))))), rfl, bel.frame _, fun h => by cases h⟩

theorem over : Rows.IndexPlaceSaid :=
  OpenClaim.holds_of_wide 8 Tryd.f8 rfl rfl rfl rfl rfl rfl rfl ⟨rfl, rfl, rfl, rfl, rfl⟩ rfl rfl rfl rfl rfl (by kernel_rfl) Tryd.func8 (by kernel_rfl)
    (of_decide_eq_true (by kernel_rfl)) (by unfold Func.isWrapper; first | (rw [if_pos (by decide +kernel)]; kernel_rfl) | (rw [if_neg (by decide +kernel)]; exact ⟨rfl, rfl⟩))
    (fun os started H enc _ => lifted os started H enc)

theorem proved : Rows.IndexPlaceCardSaid :=
  Claim7.holds_tied_plain_at .later [] [.data] true (true, "ff0bb4375bea55efa16266bd5e425099be6e5092c0e69cdcc6c311bd18fe096f") false
    over (fun _ h => by cases h) (by kernel_rfl) (fun _ h => by cases h) indexPlace_row_tie rfl ⟨rfl, rfl⟩ (by kernel_rfl) rfl
    (fun f fn hf hfn => by
      obtain rfl : f = 8 := Option.some.inj ((show Tryd.prog.funcNamed "colloquy/colloquylaw08.IndexPlace" = some 8 by kernel_rfl).symm.trans hf) |>.symm
      obtain rfl : fn = Tryd.f8 := (Option.some.inj (Tryd.func8.symm.trans hfn)).symm
      exact ⟨by kernel_rfl, fun j t ht => by
        rw [Tryd.params8] at ht
        have hm : t ∈ [22, 29, 29, 24, 26, 3] := by simpa using Array.mem_of_getElem? ht
        have hall : ([22, 29, 29, 24, 26, 3].all fun u => !Tryd.prog.wantsStandIn u) = true := by kernel_rfl
        exact (show Tryd.prog.wantsStandIn t = false by simpa using List.all_eq_true.1 hall t hm)⟩)
    (by kernel_rfl)
#print axioms proved
end Go.Proofs.YtmeklhlojogdnaaDoor.indexPlace
