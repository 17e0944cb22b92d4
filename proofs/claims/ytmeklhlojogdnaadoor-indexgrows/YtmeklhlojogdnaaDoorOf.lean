/-
  The walk of keys.Of: it answers the keys that 'kl' says. Conditions: that the table of what kinds need reads as its initialiser lays it.
-/
import Derived.Test.YtmeklhlojogdnaaDoorKeys
import Derived.Deep.RegionHeld3
import Derived.Deep.DrawnRows
namespace Go.Proofs.YtmeklhlojogdnaaDoor
open Go.RowKit
set_option linter.unusedVariables false

/-- May a command be? -/
def Cd.may (x : Cd) : Bool := mayB x.u x.s x.k x.h x.n x.t.size
/-- Has it keys? -/
def Cd.on (x : Cd) : Bool := !(x.k == 0) && x.may
/-- A command's keys. -/
def kl (x : Cd) : List Ky := if x.on then [⟨true, x.u, true⟩, ⟨false, x.h, !rdB x.k⟩] else []
theorem kl_yes {x : Cd} (h : x.on = true) : kl x = [⟨true, x.u, true⟩, ⟨false, x.h, !rdB x.k⟩] := by rw [kl, if_pos h]
theorem kl_no {x : Cd} (h : x.on = false) : kl x = [] := by rw [kl, h]; rfl
theorem kl_len (x : Cd) : (kl x).length ≤ 1000000 := by
  rcases h : x.on with _ | _
  · rw [kl_no h]; simp
  · rw [kl_yes h]; simp

def KsPost (w : World) (l : List Ky) (e : Ending) (w' : World) : Prop := ∃ A c, e = .returned (.slice A l.length c) ∧ Ks w' w'.heap.size A l ∧ Below w.heap.size w w'

/-- The cells of keys, one behind the other. -/
def kc : List Ky → List Value
  | [] => []
  | x :: l => .bool x.a :: .int .i64 x.i :: .bool x.c :: kc l
theorem kc_at : ∀ (l : List Ky) (i : Nat) (x : Ky), l[i]? = some x → (kc l)[i * 3]? = some (.bool x.a) ∧ (kc l)[i * 3 + 1]? = some (.int .i64 x.i) ∧ (kc l)[i * 3 + 2]? = some (.bool x.c)
  | [], i, x, h => by simp at h
  | y :: l, 0, x, h => by simp at h; subst h; exact ⟨rfl, rfl, rfl⟩
  | y :: l, i + 1, x, h => by
    obtain ⟨q0, q1, q2⟩ := kc_at l i x (by simpa using h)
    rw [show (i + 1) * 3 = i * 3 + 3 by omega]
    exact ⟨q0, q1, q2⟩

/-- The slice at A is a row of keys in one of the blocks of O. -/
def Kr (w : World) (O : Nat → Prop) (A : Option Addr) (l : List Ky) : Prop := l = [] ∨ ∃ r, A = some ⟨r, 0, none⟩ ∧ O r ∧ w.heap[r]? = some (.cells (kc l).toArray 60 (0, 0))
theorem Kr.ks {w : World} {O : Nat → Prop} {A : Option Addr} {l : List Ky} (h : Kr w O A l) : Ks w w.heap.size A l := by
  rcases h with rfl | ⟨r, hA, _, hr⟩
  · exact .inl rfl
  · refine .inr ⟨r, 0, hA, lt_of_block hr, fun j x hx => ?_⟩
    obtain ⟨q0, q1, q2⟩ := kc_at l j x hx
    refine ⟨?_, ?_, ?_⟩ <;> (rw [cell_of_row w r _ _ 60 _ hr]; simp; first | exact q0 | exact q1 | exact q2)

def KrPost (w : World) (l : List Ky) (e : Ending) (w' : World) : Prop := ∃ A c, e = .returned (.slice A l.length c) ∧ Kr w' (fun r => w.heap.size ≤ r) A l ∧ Below w.heap.size w w'

/-- What a region keeps that loads of one box: the box, and what was there. -/
theorem keep1 {w0 v v' : World} {B D : Nat} {u s k h n : Int} {t : ByteArray} (hB : B < D) (hS : Cb v B u s k h n t ∧ Below D w0 v) (hb : Below D v v') : Cb v' B u s k h n t ∧ Below D w0 v' := ⟨hS.1.on hb hB, hS.2.trans hb⟩

theorem of_nop (u s h n : Int) (t : ByteArray) (w : World) : Calls Tryd.prog 31 #[cv u s 0 h n t] w (KrPost w []) := by
  go_enter Tryd.func31, Tryd.ntmps31
  go_wp2
  go_ret
  exact ⟨none, 0, rfl, .inl rfl, (Below.refl _ _).alloc (Nat.le_refl _) _⟩

theorem of_not (u s k h n : Int) (t : ByteArray) (w : World) (hN : Nd w) (hk : (k == 0) = false) (hm : mayB u s k h n t.size = false) : Calls Tryd.prog 31 #[cv u s k h n t] w (KrPost w []) := by
  have HM : ∀ W, Nd W → Hid (Calls Tryd.prog 39 #[cv u s k h n t] W (BoolPost W false)) := fun W h' => by have := may_any u s k h n t W h'; rw [hm] at this; exact this
  have BW : Below w.heap.size w (w.alloc (.cells #[.int .i64 u, .int .i64 s, .int .i64 k, .int .i64 h, .int .i64 n, .string t] 24)) := (Below.refl _ _).alloc (Nat.le_refl _) _
  have N0 := hN.on BW
  clear hm
  go_enter Tryd.func31, Tryd.ntmps31
  go_wp2_with fail
  refine (HM _ N0).out.mono ?_
  rintro e w1 ⟨rfl, B1⟩
  go_wp2
  go_ret
  exact ⟨none, 0, rfl, .inl rfl, BW.trans (B1.mono BW.size)⟩

set_option maxHeartbeats 1000000 in
theorem of_yes (r : Bool) (u s k h n : Int) (t : ByteArray) (w : World) (hN : Nd w) (hk : (k == 0) = false) (hm : mayB u s k h n t.size = true) (hr : rdB k = r) : Calls Tryd.prog 31 #[cv u s k h n t] w (KrPost w [⟨true, u, true⟩, ⟨false, h, !r⟩]) := by
  have HM : ∀ W, Nd W → Hid (Calls Tryd.prog 39 #[cv u s k h n t] W (BoolPost W true)) := fun W h' => by have := may_any u s k h n t W h'; rw [hm] at this; exact this
  have HR : ∀ W, Hid (Calls Tryd.prog 40 #[cv u s k h n t] W (BoolPost W r)) := fun W => by have := reads_any u s k h n t W; rw [hr] at this; exact this
  clear hm hr
  go_enter Tryd.func31, Tryd.ntmps31
  go_wp2_with fail
  have BW : Below w.heap.size w (w.alloc (.cells #[.int .i64 u, .int .i64 s, .int .i64 k, .int .i64 h, .int .i64 n, .string t] 24)) := (Below.refl _ _).alloc (Nat.le_refl _) _
  have Z0 : (w.alloc (.cells #[.int .i64 u, .int .i64 s, .int .i64 k, .int .i64 h, .int .i64 n, .string t] 24)).heap.size = w.heap.size + 1 := by simp
  have C0 := cb_new w u s k h n t
  have N0 := hN.on BW
  generalize (w.alloc (.cells #[.int .i64 u, .int .i64 s, .int .i64 k, .int .i64 h, .int .i64 n, .string t] 24)) = W0 at *
  refine (HM _ N0).out.mono ?_
  rintro e w1 ⟨rfl, B1⟩
  have q1 := B1.size
  have C1 := C0.on B1 (by omega)
  have hz : w.heap.size < w1.heap.size := by omega
  have S0 : Cb w1 w.heap.size u s k h n t ∧ Below w1.heap.size w1 w1 := ⟨C1, Below.refl _ _⟩
  have KD : Hid (∀ v, (Cb v w.heap.size u s k h n t ∧ Below w1.heap.size w1 v) → (Cb v.drew w.heap.size u s k h n t ∧ Below w1.heap.size w1 v.drew)) := fun v hS => keep1 hz hS ((Below.refl _ _).drew)
  have KS : Hid (∀ v v', (Cb v w.heap.size u s k h n t ∧ Below w1.heap.size w1 v) → Below v.heap.size v v' → (Cb v' w.heap.size u s k h n t ∧ Below w1.heap.size w1 v')) := fun v v' hS hb => keep1 hz hS (hb.mono hS.2.size)
  have KA : Hid (∀ v o, (Cb v w.heap.size u s k h n t ∧ Below w1.heap.size w1 v) → (Cb (v.alloc o) w.heap.size u s k h n t ∧ Below w1.heap.size w1 (v.alloc o))) := fun v o hS => keep1 hz hS (((Below.refl _ _).alloc (Nat.le_refl _) _).mono hS.2.size)
  have BE := BW.trans (B1.mono BW.size)
  obtain ⟨p0, p1, p2, p3, p4, p5⟩ := C1
  have S0' := Lib.hid S0
  clear C0 N0 B1 BW hN
  go_wp2_with fail
  go_region_held3 (fun v => (v.cell? ⟨w.heap.size, 0, none⟩ = some (.int .i64 u) ∧ v.cell? ⟨w.heap.size, 1, none⟩ = some (.int .i64 s) ∧ v.cell? ⟨w.heap.size, 2, none⟩ = some (.int .i64 k) ∧ v.cell? ⟨w.heap.size, 3, none⟩ = some (.int .i64 h) ∧ v.cell? ⟨w.heap.size, 4, none⟩ = some (.int .i64 n) ∧ v.cell? ⟨w.heap.size, 5, none⟩ = some (.string t)) ∧ Below w1.heap.size w1 v) (first | (exact S0) | (exact KD.out _ S0) | (refine KA.out _ _ ?_; assumption) | (refine KD.out _ ?_; assumption) | (refine KS.out _ _ ?_ ?_ <;> assumption) | (refine KS.out _ _ (KD.out _ S0) ?_; assumption))
    (first | (go_at_call 40; (with_reducible refine (HR _).out.mono ?_); rintro e w' ⟨rfl, hb'⟩))
  rename_i hSx
  have BX := BE.trans (hSx.2.mono (by omega))
  go_wp2
  go_ret
  have hz2 := hb'.size
  have hz3 : w1.drew.heap.size = w1.heap.size := rfl
  exact ⟨_, 2, rfl, .inr ⟨_, rfl, by omega, heap_alloc_new _ _⟩, BX⟩

theorem of_own (x : Cd) (w : World) (hN : Nd w) : Calls Tryd.prog 31 #[cv x.u x.s x.k x.h x.n x.t] w (KrPost w (kl x)) := by
  rcases h0 : (x.k == 0) with _ | _
  · rcases hm : x.may with _ | _
    · rw [kl_no (by rw [Cd.on, h0, hm]; rfl)]
      exact of_not _ _ _ _ _ _ w hN h0 hm
    · rw [kl_yes (by rw [Cd.on, h0, hm]; rfl)]
      exact of_yes _ _ _ _ _ _ _ w hN h0 hm rfl
  · rw [kl_no (by rw [Cd.on, h0]; rfl)]
    have : x.k = 0 := by simpa using h0
    rw [this]
    exact of_nop _ _ _ _ _ w

theorem of_any (x : Cd) (w : World) (hN : Nd w) : Calls Tryd.prog 31 #[cv x.u x.s x.k x.h x.n x.t] w (KsPost w (kl x)) :=
  (of_own x w hN).mono fun e w' ⟨A, c, he, hk, hb⟩ => ⟨A, c, he, hk.ks, hb⟩

end Go.Proofs.YtmeklhlojogdnaaDoor
