/-
  Who interferes does so both ways; a command that is one, and not Nop, interferes with itself; so do keys meet: KeysBoth answers true whatever the two commands and the two keys; they read as they did. Conditions: none beyond the card's own (the table of what kinds need reads as its initialiser lays it).
-/
import Derived.Test.YtdpjkbhofebdiaaDoorOpen
import Derived.Deep.RegionHeld3
import Derived.Deep.DrawnRows
import Derived.Test.YtdpjkbhofebdiaaDoorCards
import Derived.Test.YtdpjkbhofebdiaaDoorTie
import Derived.SevenTiedAt
namespace Go.Proofs.YtdpjkbhofebdiaaDoor.keysBoth
open Go.ChangeShapes Go.WideShapes Go.ChangeAt Go.RowKit Go.Joins
set_option linter.unusedVariables false

theorem keep5 {w0 v v' : World} {B B' E E' D : Nat} {u s k h n u' s' k' h' n' : Int} {t t' : ByteArray} {a c a' c' : Bool} {i i' : Int} (hB : B < D) (hB' : B' < D) (hE : E < D) (hE' : E' < D) (hS : Cb v B u s k h n t ∧ Cb v B' u' s' k' h' n' t' ∧ Kb v E a i c ∧ Kb v E' a' i' c' ∧ Below D w0 v) (hb : Below D v v') :
    Cb v' B u s k h n t ∧ Cb v' B' u' s' k' h' n' t' ∧ Kb v' E a i c ∧ Kb v' E' a' i' c' ∧ Below D w0 v' := ⟨hS.1.on hb hB, hS.2.1.on hb hB', hS.2.2.1.on hb hE, hS.2.2.2.1.on hb hE', hS.2.2.2.2.trans hb⟩

set_option maxHeartbeats 2000000 in
theorem nay (r q : Bool) (u s k h n u' s' k' h' n' : Int) (t t' : ByteArray) (a c a' c' : Bool) (i i' : Int) (w : World) (hN : Nd w) (hm : mayB u s k h n t.size = false)
    (HI : ∀ W, Nd W → Hid (Calls Tryd.prog 10 #[cv u s k h n t, cv u' s' k' h' n' t'] W (BoolPost W r))) (HJ : ∀ W, Nd W → Hid (Calls Tryd.prog 10 #[cv u' s' k' h' n' t', cv u s k h n t] W (BoolPost W r))) (HS : ∀ W, Nd W → Hid (Calls Tryd.prog 10 #[cv u s k h n t, cv u s k h n t] W (BoolPost W false)))
    (HM : ∀ W, Hid (Calls Tryd.prog 17 #[kv a i c, kv a' i' c'] W (BoolPost W q))) (HN : ∀ W, Hid (Calls Tryd.prog 17 #[kv a' i' c', kv a i c] W (BoolPost W q))) (HO : ∀ W, Hid (Calls Tryd.prog 17 #[kv a i c, kv a i c] W (BoolPost W c))) : Calls Tryd.prog 5 #[cv u s k h n t, cv u' s' k' h' n' t', kv a i c, kv a' i' c'] w (UpPost w) := by
  have HA : ∀ W, Nd W → Hid (Calls Tryd.prog 15 #[cv u s k h n t] W (BoolPost W false)) := fun W hw => by have := may_any u s k h n t W hw; rw [hm] at this; exact this
  clear hm
  go_enter Tryd.func5, Tryd.ntmps5
  go_wp2_with fail
  have BW : Below w.heap.size w ((((w.alloc (.cells #[.int .i64 u, .int .i64 s, .int .i64 k, .int .i64 h, .int .i64 n, .string t] 23)).alloc (.cells #[.int .i64 u', .int .i64 s', .int .i64 k', .int .i64 h', .int .i64 n', .string t'] 23)).alloc (.cells #[.bool a, .int .i64 i, .bool c] 33)).alloc (.cells #[.bool a', .int .i64 i', .bool c'] 33)) := ((((((Below.refl _ _).alloc (Nat.le_refl _) _)).alloc (by simp) _).alloc (by simp; omega) _).alloc (by simp; omega) _)
  have Z0 : ((((w.alloc (.cells #[.int .i64 u, .int .i64 s, .int .i64 k, .int .i64 h, .int .i64 n, .string t] 23)).alloc (.cells #[.int .i64 u', .int .i64 s', .int .i64 k', .int .i64 h', .int .i64 n', .string t'] 23)).alloc (.cells #[.bool a, .int .i64 i, .bool c] 33)).alloc (.cells #[.bool a', .int .i64 i', .bool c'] 33)).heap.size = w.heap.size + 1 + 1 + 1 + 1 := by simp
  have C0 : Cb ((((w.alloc (.cells #[.int .i64 u, .int .i64 s, .int .i64 k, .int .i64 h, .int .i64 n, .string t] 23)).alloc (.cells #[.int .i64 u', .int .i64 s', .int .i64 k', .int .i64 h', .int .i64 n', .string t'] 23)).alloc (.cells #[.bool a, .int .i64 i, .bool c] 33)).alloc (.cells #[.bool a', .int .i64 i', .bool c'] 33)) w.heap.size u s k h n t := (((cb_new w u s k h n t).on ((Below.refl _ _).alloc (Nat.le_refl _) _) (by simp)).on ((Below.refl _ _).alloc (Nat.le_refl _) _) (by simp; omega)).on ((Below.refl _ _).alloc (Nat.le_refl _) _) (by simp; omega)
  have D0 : Cb ((((w.alloc (.cells #[.int .i64 u, .int .i64 s, .int .i64 k, .int .i64 h, .int .i64 n, .string t] 23)).alloc (.cells #[.int .i64 u', .int .i64 s', .int .i64 k', .int .i64 h', .int .i64 n', .string t'] 23)).alloc (.cells #[.bool a, .int .i64 i, .bool c] 33)).alloc (.cells #[.bool a', .int .i64 i', .bool c'] 33)) (w.heap.size + 1) u' s' k' h' n' t' := by
    have : Cb ((((w.alloc (.cells #[.int .i64 u, .int .i64 s, .int .i64 k, .int .i64 h, .int .i64 n, .string t] 23)).alloc (.cells #[.int .i64 u', .int .i64 s', .int .i64 k', .int .i64 h', .int .i64 n', .string t'] 23)).alloc (.cells #[.bool a, .int .i64 i, .bool c] 33)).alloc (.cells #[.bool a', .int .i64 i', .bool c'] 33)) ((w.alloc (.cells #[.int .i64 u, .int .i64 s, .int .i64 k, .int .i64 h, .int .i64 n, .string t] 23)).heap.size) u' s' k' h' n' t' := ((cb_new (w.alloc (.cells #[.int .i64 u, .int .i64 s, .int .i64 k, .int .i64 h, .int .i64 n, .string t] 23)) u' s' k' h' n' t').on ((Below.refl _ _).alloc (Nat.le_refl _) _) (by simp)).on ((Below.refl _ _).alloc (Nat.le_refl _) _) (by simp)
    rw [show (w.alloc (.cells #[.int .i64 u, .int .i64 s, .int .i64 k, .int .i64 h, .int .i64 n, .string t] 23)).heap.size = w.heap.size + 1 by simp] at this
    exact this
  have E0 : Kb ((((w.alloc (.cells #[.int .i64 u, .int .i64 s, .int .i64 k, .int .i64 h, .int .i64 n, .string t] 23)).alloc (.cells #[.int .i64 u', .int .i64 s', .int .i64 k', .int .i64 h', .int .i64 n', .string t'] 23)).alloc (.cells #[.bool a, .int .i64 i, .bool c] 33)).alloc (.cells #[.bool a', .int .i64 i', .bool c'] 33)) (w.heap.size + 1 + 1) a i c := by
    have : Kb ((((w.alloc (.cells #[.int .i64 u, .int .i64 s, .int .i64 k, .int .i64 h, .int .i64 n, .string t] 23)).alloc (.cells #[.int .i64 u', .int .i64 s', .int .i64 k', .int .i64 h', .int .i64 n', .string t'] 23)).alloc (.cells #[.bool a, .int .i64 i, .bool c] 33)).alloc (.cells #[.bool a', .int .i64 i', .bool c'] 33)) (((w.alloc (.cells #[.int .i64 u, .int .i64 s, .int .i64 k, .int .i64 h, .int .i64 n, .string t] 23)).alloc (.cells #[.int .i64 u', .int .i64 s', .int .i64 k', .int .i64 h', .int .i64 n', .string t'] 23)).heap.size) a i c := (kb_new ((w.alloc (.cells #[.int .i64 u, .int .i64 s, .int .i64 k, .int .i64 h, .int .i64 n, .string t] 23)).alloc (.cells #[.int .i64 u', .int .i64 s', .int .i64 k', .int .i64 h', .int .i64 n', .string t'] 23)) a i c).on ((Below.refl _ _).alloc (Nat.le_refl _) _) (by simp)
    rw [show ((w.alloc (.cells #[.int .i64 u, .int .i64 s, .int .i64 k, .int .i64 h, .int .i64 n, .string t] 23)).alloc (.cells #[.int .i64 u', .int .i64 s', .int .i64 k', .int .i64 h', .int .i64 n', .string t'] 23)).heap.size = w.heap.size + 1 + 1 by simp] at this
    exact this
  have F0 : Kb ((((w.alloc (.cells #[.int .i64 u, .int .i64 s, .int .i64 k, .int .i64 h, .int .i64 n, .string t] 23)).alloc (.cells #[.int .i64 u', .int .i64 s', .int .i64 k', .int .i64 h', .int .i64 n', .string t'] 23)).alloc (.cells #[.bool a, .int .i64 i, .bool c] 33)).alloc (.cells #[.bool a', .int .i64 i', .bool c'] 33)) (w.heap.size + 1 + 1 + 1) a' i' c' := by
    have := kb_new (((w.alloc (.cells #[.int .i64 u, .int .i64 s, .int .i64 k, .int .i64 h, .int .i64 n, .string t] 23)).alloc (.cells #[.int .i64 u', .int .i64 s', .int .i64 k', .int .i64 h', .int .i64 n', .string t'] 23)).alloc (.cells #[.bool a, .int .i64 i, .bool c] 33)) a' i' c'
    rw [show (((w.alloc (.cells #[.int .i64 u, .int .i64 s, .int .i64 k, .int .i64 h, .int .i64 n, .string t] 23)).alloc (.cells #[.int .i64 u', .int .i64 s', .int .i64 k', .int .i64 h', .int .i64 n', .string t'] 23)).alloc (.cells #[.bool a, .int .i64 i, .bool c] 33)).heap.size = w.heap.size + 1 + 1 + 1 by simp] at this
    exact this
  have N0 := hN.on BW
  generalize ((((w.alloc (.cells #[.int .i64 u, .int .i64 s, .int .i64 k, .int .i64 h, .int .i64 n, .string t] 23)).alloc (.cells #[.int .i64 u', .int .i64 s', .int .i64 k', .int .i64 h', .int .i64 n', .string t'] 23)).alloc (.cells #[.bool a, .int .i64 i, .bool c] 33)).alloc (.cells #[.bool a', .int .i64 i', .bool c'] 33)) = W0 at *
  refine (awake_any W0 N0).mono ?_
  rintro e w1 ⟨rfl, B1⟩
  have q1 := B1.size
  have N1 := N0.on B1
  obtain ⟨p0, p1, p2, p3, p4, p5⟩ := C0.on B1 (by omega)
  go_wp2_with fail
  clear p0 p1 p2 p3 p4 p5
  refine (HA _ N1).out.mono ?_
  rintro e w2 ⟨rfl, B2⟩
  have q2 := B2.size
  have N2 := N1.on B2
  have B02 := B1.trans (B2.mono q1)
  have CA := C0.on B02 (by omega)
  have DA := D0.on B02 (by omega)
  have EA := E0.on B02 (by omega)
  have FA := F0.on B02 (by omega)
  have BE := BW.trans (B02.mono BW.size)
  have z1 : w.heap.size < w2.heap.size := by omega
  have z2 : w.heap.size + 1 < w2.heap.size := by omega
  have z3 : w.heap.size + 1 + 1 < w2.heap.size := by omega
  have z4 : w.heap.size + 1 + 1 + 1 < w2.heap.size := by omega
  have S0 : Cb w2 w.heap.size u s k h n t ∧ Cb w2 (w.heap.size + 1) u' s' k' h' n' t' ∧ Kb w2 (w.heap.size + 1 + 1) a i c ∧ Kb w2 (w.heap.size + 1 + 1 + 1) a' i' c' ∧ Below w2.heap.size w2 w2 := ⟨CA, DA, EA, FA, Below.refl _ _⟩
  have KD : Hid (∀ v, (Cb v w.heap.size u s k h n t ∧ Cb v (w.heap.size + 1) u' s' k' h' n' t' ∧ Kb v (w.heap.size + 1 + 1) a i c ∧ Kb v (w.heap.size + 1 + 1 + 1) a' i' c' ∧ Below w2.heap.size w2 v) → (Cb v.drew w.heap.size u s k h n t ∧ Cb v.drew (w.heap.size + 1) u' s' k' h' n' t' ∧ Kb v.drew (w.heap.size + 1 + 1) a i c ∧ Kb v.drew (w.heap.size + 1 + 1 + 1) a' i' c' ∧ Below w2.heap.size w2 v.drew)) := fun v hS => keep5 z1 z2 z3 z4 hS ((Below.refl _ _).drew)
  have KS : Hid (∀ v v', Below v.heap.size v v' → (Cb v w.heap.size u s k h n t ∧ Cb v (w.heap.size + 1) u' s' k' h' n' t' ∧ Kb v (w.heap.size + 1 + 1) a i c ∧ Kb v (w.heap.size + 1 + 1 + 1) a' i' c' ∧ Below w2.heap.size w2 v) → (Cb v' w.heap.size u s k h n t ∧ Cb v' (w.heap.size + 1) u' s' k' h' n' t' ∧ Kb v' (w.heap.size + 1 + 1) a i c ∧ Kb v' (w.heap.size + 1 + 1 + 1) a' i' c' ∧ Below w2.heap.size w2 v')) := fun v v' hb hS => keep5 z1 z2 z3 z4 hS (hb.mono hS.2.2.2.2.size)
  have HI2 : ∀ W, (Cb W w.heap.size u s k h n t ∧ Cb W (w.heap.size + 1) u' s' k' h' n' t' ∧ Kb W (w.heap.size + 1 + 1) a i c ∧ Kb W (w.heap.size + 1 + 1 + 1) a' i' c' ∧ Below w2.heap.size w2 W) → Hid (Calls Tryd.prog 10 #[cv u s k h n t, cv u' s' k' h' n' t'] W (BoolPost W r)) := fun W hS => HI W (N2.on hS.2.2.2.2)
  have HJ2 : ∀ W, (Cb W w.heap.size u s k h n t ∧ Cb W (w.heap.size + 1) u' s' k' h' n' t' ∧ Kb W (w.heap.size + 1 + 1) a i c ∧ Kb W (w.heap.size + 1 + 1 + 1) a' i' c' ∧ Below w2.heap.size w2 W) → Hid (Calls Tryd.prog 10 #[cv u' s' k' h' n' t', cv u s k h n t] W (BoolPost W r)) := fun W hS => HJ W (N2.on hS.2.2.2.2)
  have HS2 : ∀ W, (Cb W w.heap.size u s k h n t ∧ Cb W (w.heap.size + 1) u' s' k' h' n' t' ∧ Kb W (w.heap.size + 1 + 1) a i c ∧ Kb W (w.heap.size + 1 + 1 + 1) a' i' c' ∧ Below w2.heap.size w2 W) → Hid (Calls Tryd.prog 10 #[cv u s k h n t, cv u s k h n t] W (BoolPost W false)) := fun W hS => HS W (N2.on hS.2.2.2.2)
  obtain ⟨p0, p1, p2, p3, p4, p5⟩ := id CA
  obtain ⟨r0, r1, r2, r3, r4, r5⟩ := id DA
  obtain ⟨k0, k1, k2⟩ := id EA
  obtain ⟨l0, l1, l2⟩ := id FA
  clear HI HJ HS HA B1 B2 B02 C0 D0 E0 F0 CA DA EA FA N0 N1 N2 hN BW
  go_wp2_with fail
  go_region_held3 (fun v => (v.cell? ⟨w.heap.size, 0, none⟩ = some (.int .i64 u) ∧ v.cell? ⟨w.heap.size, 1, none⟩ = some (.int .i64 s) ∧ v.cell? ⟨w.heap.size, 2, none⟩ = some (.int .i64 k) ∧ v.cell? ⟨w.heap.size, 3, none⟩ = some (.int .i64 h) ∧ v.cell? ⟨w.heap.size, 4, none⟩ = some (.int .i64 n) ∧ v.cell? ⟨w.heap.size, 5, none⟩ = some (.string t)) ∧ (v.cell? ⟨w.heap.size + 1, 0, none⟩ = some (.int .i64 u') ∧ v.cell? ⟨w.heap.size + 1, 1, none⟩ = some (.int .i64 s') ∧ v.cell? ⟨w.heap.size + 1, 2, none⟩ = some (.int .i64 k') ∧ v.cell? ⟨w.heap.size + 1, 3, none⟩ = some (.int .i64 h') ∧ v.cell? ⟨w.heap.size + 1, 4, none⟩ = some (.int .i64 n') ∧ v.cell? ⟨w.heap.size + 1, 5, none⟩ = some (.string t')) ∧ (v.cell? ⟨w.heap.size + 1 + 1, 0, none⟩ = some (.bool a) ∧ v.cell? ⟨w.heap.size + 1 + 1, 1, none⟩ = some (.int .i64 i) ∧ v.cell? ⟨w.heap.size + 1 + 1, 2, none⟩ = some (.bool c)) ∧ (v.cell? ⟨w.heap.size + 1 + 1 + 1, 0, none⟩ = some (.bool a') ∧ v.cell? ⟨w.heap.size + 1 + 1 + 1, 1, none⟩ = some (.int .i64 i') ∧ v.cell? ⟨w.heap.size + 1 + 1 + 1, 2, none⟩ = some (.bool c')) ∧ Below w2.heap.size w2 v)
    (first | (exact S0) | (exact KD.out _ S0) | (refine KS.out _ _ hb6 ?_; assumption) | (refine KS.out _ _ hb5 ?_; assumption) | (refine KS.out _ _ hb4 ?_; assumption) | (refine KS.out _ _ hb3 ?_; assumption) | (refine KS.out _ _ hb2 ?_; assumption) | (refine KS.out _ _ hb1 ?_; exact KD.out _ S0) | (refine KD.out _ ?_; assumption))
    (first | (go_at_call 10; (with_reducible refine (HI2 _ ?_).out.mono ?_); (focus (first | assumption | exact KD.out _ S0)); rintro e wa ⟨rfl, hb1⟩) | (go_at_call 10; (with_reducible refine (HJ2 _ ?_).out.mono ?_); (focus assumption); rintro e wb ⟨rfl, hb2⟩) | (go_at_call 10; (with_reducible refine (HS2 _ ?_).out.mono ?_); (focus assumption); rintro e wc ⟨rfl, hb3⟩) | (go_at_call 17; (with_reducible refine (HM _).out.mono ?_); rintro e wd ⟨rfl, hb4⟩) | (go_at_call 17; (with_reducible refine (HN _).out.mono ?_); rintro e we ⟨rfl, hb5⟩) | (go_at_call 17; (with_reducible refine (HO _).out.mono ?_); rintro e wf ⟨rfl, hb6⟩))
  rename_i hSx
  have BX := BE.trans (hSx.2.2.2.2.mono (by omega))
  go_wp2
  go_ret
  exact ⟨rfl, BX⟩

set_option maxHeartbeats 2000000 in
theorem nop (r q : Bool) (u s h n u' s' k' h' n' : Int) (t t' : ByteArray) (a c a' c' : Bool) (i i' : Int) (w : World) (hN : Nd w) (hm : mayB u s 0 h n t.size = true)
    (HI : ∀ W, Nd W → Hid (Calls Tryd.prog 10 #[cv u s 0 h n t, cv u' s' k' h' n' t'] W (BoolPost W r))) (HJ : ∀ W, Nd W → Hid (Calls Tryd.prog 10 #[cv u' s' k' h' n' t', cv u s 0 h n t] W (BoolPost W r))) (HS : ∀ W, Nd W → Hid (Calls Tryd.prog 10 #[cv u s 0 h n t, cv u s 0 h n t] W (BoolPost W false)))
    (HM : ∀ W, Hid (Calls Tryd.prog 17 #[kv a i c, kv a' i' c'] W (BoolPost W q))) (HN : ∀ W, Hid (Calls Tryd.prog 17 #[kv a' i' c', kv a i c] W (BoolPost W q))) (HO : ∀ W, Hid (Calls Tryd.prog 17 #[kv a i c, kv a i c] W (BoolPost W c))) : Calls Tryd.prog 5 #[cv u s 0 h n t, cv u' s' k' h' n' t', kv a i c, kv a' i' c'] w (UpPost w) := by
  have HA : ∀ W, Nd W → Hid (Calls Tryd.prog 15 #[cv u s 0 h n t] W (BoolPost W true)) := fun W hw => by have := may_any u s 0 h n t W hw; rw [hm] at this; exact this
  clear hm
  go_enter Tryd.func5, Tryd.ntmps5
  go_wp2_with fail
  have BW : Below w.heap.size w ((((w.alloc (.cells #[.int .i64 u, .int .i64 s, .int .i64 0, .int .i64 h, .int .i64 n, .string t] 23)).alloc (.cells #[.int .i64 u', .int .i64 s', .int .i64 k', .int .i64 h', .int .i64 n', .string t'] 23)).alloc (.cells #[.bool a, .int .i64 i, .bool c] 33)).alloc (.cells #[.bool a', .int .i64 i', .bool c'] 33)) := ((((((Below.refl _ _).alloc (Nat.le_refl _) _)).alloc (by simp) _).alloc (by simp; omega) _).alloc (by simp; omega) _)
  have Z0 : ((((w.alloc (.cells #[.int .i64 u, .int .i64 s, .int .i64 0, .int .i64 h, .int .i64 n, .string t] 23)).alloc (.cells #[.int .i64 u', .int .i64 s', .int .i64 k', .int .i64 h', .int .i64 n', .string t'] 23)).alloc (.cells #[.bool a, .int .i64 i, .bool c] 33)).alloc (.cells #[.bool a', .int .i64 i', .bool c'] 33)).heap.size = w.heap.size + 1 + 1 + 1 + 1 := by simp
  have C0 : Cb ((((w.alloc (.cells #[.int .i64 u, .int .i64 s, .int .i64 0, .int .i64 h, .int .i64 n, .string t] 23)).alloc (.cells #[.int .i64 u', .int .i64 s', .int .i64 k', .int .i64 h', .int .i64 n', .string t'] 23)).alloc (.cells #[.bool a, .int .i64 i, .bool c] 33)).alloc (.cells #[.bool a', .int .i64 i', .bool c'] 33)) w.heap.size u s 0 h n t := (((cb_new w u s 0 h n t).on ((Below.refl _ _).alloc (Nat.le_refl _) _) (by simp)).on ((Below.refl _ _).alloc (Nat.le_refl _) _) (by simp; omega)).on ((Below.refl _ _).alloc (Nat.le_refl _) _) (by simp; omega)
  have D0 : Cb ((((w.alloc (.cells #[.int .i64 u, .int .i64 s, .int .i64 0, .int .i64 h, .int .i64 n, .string t] 23)).alloc (.cells #[.int .i64 u', .int .i64 s', .int .i64 k', .int .i64 h', .int .i64 n', .string t'] 23)).alloc (.cells #[.bool a, .int .i64 i, .bool c] 33)).alloc (.cells #[.bool a', .int .i64 i', .bool c'] 33)) (w.heap.size + 1) u' s' k' h' n' t' := by
    have : Cb ((((w.alloc (.cells #[.int .i64 u, .int .i64 s, .int .i64 0, .int .i64 h, .int .i64 n, .string t] 23)).alloc (.cells #[.int .i64 u', .int .i64 s', .int .i64 k', .int .i64 h', .int .i64 n', .string t'] 23)).alloc (.cells #[.bool a, .int .i64 i, .bool c] 33)).alloc (.cells #[.bool a', .int .i64 i', .bool c'] 33)) ((w.alloc (.cells #[.int .i64 u, .int .i64 s, .int .i64 0, .int .i64 h, .int .i64 n, .string t] 23)).heap.size) u' s' k' h' n' t' := ((cb_new (w.alloc (.cells #[.int .i64 u, .int .i64 s, .int .i64 0, .int .i64 h, .int .i64 n, .string t] 23)) u' s' k' h' n' t').on ((Below.refl _ _).alloc (Nat.le_refl _) _) (by simp)).on ((Below.refl _ _).alloc (Nat.le_refl _) _) (by simp)
    rw [show (w.alloc (.cells #[.int .i64 u, .int .i64 s, .int .i64 0, .int .i64 h, .int .i64 n, .string t] 23)).heap.size = w.heap.size + 1 by simp] at this
    exact this
  have E0 : Kb ((((w.alloc (.cells #[.int .i64 u, .int .i64 s, .int .i64 0, .int .i64 h, .int .i64 n, .string t] 23)).alloc (.cells #[.int .i64 u', .int .i64 s', .int .i64 k', .int .i64 h', .int .i64 n', .string t'] 23)).alloc (.cells #[.bool a, .int .i64 i, .bool c] 33)).alloc (.cells #[.bool a', .int .i64 i', .bool c'] 33)) (w.heap.size + 1 + 1) a i c := by
    have : Kb ((((w.alloc (.cells #[.int .i64 u, .int .i64 s, .int .i64 0, .int .i64 h, .int .i64 n, .string t] 23)).alloc (.cells #[.int .i64 u', .int .i64 s', .int .i64 k', .int .i64 h', .int .i64 n', .string t'] 23)).alloc (.cells #[.bool a, .int .i64 i, .bool c] 33)).alloc (.cells #[.bool a', .int .i64 i', .bool c'] 33)) (((w.alloc (.cells #[.int .i64 u, .int .i64 s, .int .i64 0, .int .i64 h, .int .i64 n, .string t] 23)).alloc (.cells #[.int .i64 u', .int .i64 s', .int .i64 k', .int .i64 h', .int .i64 n', .string t'] 23)).heap.size) a i c := (kb_new ((w.alloc (.cells #[.int .i64 u, .int .i64 s, .int .i64 0, .int .i64 h, .int .i64 n, .string t] 23)).alloc (.cells #[.int .i64 u', .int .i64 s', .int .i64 k', .int .i64 h', .int .i64 n', .string t'] 23)) a i c).on ((Below.refl _ _).alloc (Nat.le_refl _) _) (by simp)
    rw [show ((w.alloc (.cells #[.int .i64 u, .int .i64 s, .int .i64 0, .int .i64 h, .int .i64 n, .string t] 23)).alloc (.cells #[.int .i64 u', .int .i64 s', .int .i64 k', .int .i64 h', .int .i64 n', .string t'] 23)).heap.size = w.heap.size + 1 + 1 by simp] at this
    exact this
  have F0 : Kb ((((w.alloc (.cells #[.int .i64 u, .int .i64 s, .int .i64 0, .int .i64 h, .int .i64 n, .string t] 23)).alloc (.cells #[.int .i64 u', .int .i64 s', .int .i64 k', .int .i64 h', .int .i64 n', .string t'] 23)).alloc (.cells #[.bool a, .int .i64 i, .bool c] 33)).alloc (.cells #[.bool a', .int .i64 i', .bool c'] 33)) (w.heap.size + 1 + 1 + 1) a' i' c' := by
    have := kb_new (((w.alloc (.cells #[.int .i64 u, .int .i64 s, .int .i64 0, .int .i64 h, .int .i64 n, .string t] 23)).alloc (.cells #[.int .i64 u', .int .i64 s', .int .i64 k', .int .i64 h', .int .i64 n', .string t'] 23)).alloc (.cells #[.bool a, .int .i64 i, .bool c] 33)) a' i' c'
    rw [show (((w.alloc (.cells #[.int .i64 u, .int .i64 s, .int .i64 0, .int .i64 h, .int .i64 n, .string t] 23)).alloc (.cells #[.int .i64 u', .int .i64 s', .int .i64 k', .int .i64 h', .int .i64 n', .string t'] 23)).alloc (.cells #[.bool a, .int .i64 i, .bool c] 33)).heap.size = w.heap.size + 1 + 1 + 1 by simp] at this
    exact this
  have N0 := hN.on BW
  generalize ((((w.alloc (.cells #[.int .i64 u, .int .i64 s, .int .i64 0, .int .i64 h, .int .i64 n, .string t] 23)).alloc (.cells #[.int .i64 u', .int .i64 s', .int .i64 k', .int .i64 h', .int .i64 n', .string t'] 23)).alloc (.cells #[.bool a, .int .i64 i, .bool c] 33)).alloc (.cells #[.bool a', .int .i64 i', .bool c'] 33)) = W0 at *
  refine (awake_any W0 N0).mono ?_
  rintro e w1 ⟨rfl, B1⟩
  have q1 := B1.size
  have N1 := N0.on B1
  obtain ⟨p0, p1, p2, p3, p4, p5⟩ := C0.on B1 (by omega)
  go_wp2_with fail
  clear p0 p1 p2 p3 p4 p5
  refine (HA _ N1).out.mono ?_
  rintro e w2 ⟨rfl, B2⟩
  have q2 := B2.size
  have N2 := N1.on B2
  have B02 := B1.trans (B2.mono q1)
  have CA := C0.on B02 (by omega)
  have DA := D0.on B02 (by omega)
  have EA := E0.on B02 (by omega)
  have FA := F0.on B02 (by omega)
  have BE := BW.trans (B02.mono BW.size)
  have z1 : w.heap.size < w2.heap.size := by omega
  have z2 : w.heap.size + 1 < w2.heap.size := by omega
  have z3 : w.heap.size + 1 + 1 < w2.heap.size := by omega
  have z4 : w.heap.size + 1 + 1 + 1 < w2.heap.size := by omega
  have S0 : Cb w2 w.heap.size u s 0 h n t ∧ Cb w2 (w.heap.size + 1) u' s' k' h' n' t' ∧ Kb w2 (w.heap.size + 1 + 1) a i c ∧ Kb w2 (w.heap.size + 1 + 1 + 1) a' i' c' ∧ Below w2.heap.size w2 w2 := ⟨CA, DA, EA, FA, Below.refl _ _⟩
  have KD : Hid (∀ v, (Cb v w.heap.size u s 0 h n t ∧ Cb v (w.heap.size + 1) u' s' k' h' n' t' ∧ Kb v (w.heap.size + 1 + 1) a i c ∧ Kb v (w.heap.size + 1 + 1 + 1) a' i' c' ∧ Below w2.heap.size w2 v) → (Cb v.drew w.heap.size u s 0 h n t ∧ Cb v.drew (w.heap.size + 1) u' s' k' h' n' t' ∧ Kb v.drew (w.heap.size + 1 + 1) a i c ∧ Kb v.drew (w.heap.size + 1 + 1 + 1) a' i' c' ∧ Below w2.heap.size w2 v.drew)) := fun v hS => keep5 z1 z2 z3 z4 hS ((Below.refl _ _).drew)
  have KS : Hid (∀ v v', Below v.heap.size v v' → (Cb v w.heap.size u s 0 h n t ∧ Cb v (w.heap.size + 1) u' s' k' h' n' t' ∧ Kb v (w.heap.size + 1 + 1) a i c ∧ Kb v (w.heap.size + 1 + 1 + 1) a' i' c' ∧ Below w2.heap.size w2 v) → (Cb v' w.heap.size u s 0 h n t ∧ Cb v' (w.heap.size + 1) u' s' k' h' n' t' ∧ Kb v' (w.heap.size + 1 + 1) a i c ∧ Kb v' (w.heap.size + 1 + 1 + 1) a' i' c' ∧ Below w2.heap.size w2 v')) := fun v v' hb hS => keep5 z1 z2 z3 z4 hS (hb.mono hS.2.2.2.2.size)
  have HI2 : ∀ W, (Cb W w.heap.size u s 0 h n t ∧ Cb W (w.heap.size + 1) u' s' k' h' n' t' ∧ Kb W (w.heap.size + 1 + 1) a i c ∧ Kb W (w.heap.size + 1 + 1 + 1) a' i' c' ∧ Below w2.heap.size w2 W) → Hid (Calls Tryd.prog 10 #[cv u s 0 h n t, cv u' s' k' h' n' t'] W (BoolPost W r)) := fun W hS => HI W (N2.on hS.2.2.2.2)
  have HJ2 : ∀ W, (Cb W w.heap.size u s 0 h n t ∧ Cb W (w.heap.size + 1) u' s' k' h' n' t' ∧ Kb W (w.heap.size + 1 + 1) a i c ∧ Kb W (w.heap.size + 1 + 1 + 1) a' i' c' ∧ Below w2.heap.size w2 W) → Hid (Calls Tryd.prog 10 #[cv u' s' k' h' n' t', cv u s 0 h n t] W (BoolPost W r)) := fun W hS => HJ W (N2.on hS.2.2.2.2)
  have HS2 : ∀ W, (Cb W w.heap.size u s 0 h n t ∧ Cb W (w.heap.size + 1) u' s' k' h' n' t' ∧ Kb W (w.heap.size + 1 + 1) a i c ∧ Kb W (w.heap.size + 1 + 1 + 1) a' i' c' ∧ Below w2.heap.size w2 W) → Hid (Calls Tryd.prog 10 #[cv u s 0 h n t, cv u s 0 h n t] W (BoolPost W false)) := fun W hS => HS W (N2.on hS.2.2.2.2)
  obtain ⟨p0, p1, p2, p3, p4, p5⟩ := id CA
  obtain ⟨r0, r1, r2, r3, r4, r5⟩ := id DA
  obtain ⟨k0, k1, k2⟩ := id EA
  obtain ⟨l0, l1, l2⟩ := id FA
  clear HI HJ HS HA B1 B2 B02 C0 D0 E0 F0 CA DA EA FA N0 N1 N2 hN BW
  go_wp2_with fail
  go_region_held3 (fun v => (v.cell? ⟨w.heap.size, 0, none⟩ = some (.int .i64 u) ∧ v.cell? ⟨w.heap.size, 1, none⟩ = some (.int .i64 s) ∧ v.cell? ⟨w.heap.size, 2, none⟩ = some (.int .i64 0) ∧ v.cell? ⟨w.heap.size, 3, none⟩ = some (.int .i64 h) ∧ v.cell? ⟨w.heap.size, 4, none⟩ = some (.int .i64 n) ∧ v.cell? ⟨w.heap.size, 5, none⟩ = some (.string t)) ∧ (v.cell? ⟨w.heap.size + 1, 0, none⟩ = some (.int .i64 u') ∧ v.cell? ⟨w.heap.size + 1, 1, none⟩ = some (.int .i64 s') ∧ v.cell? ⟨w.heap.size + 1, 2, none⟩ = some (.int .i64 k') ∧ v.cell? ⟨w.heap.size + 1, 3, none⟩ = some (.int .i64 h') ∧ v.cell? ⟨w.heap.size + 1, 4, none⟩ = some (.int .i64 n') ∧ v.cell? ⟨w.heap.size + 1, 5, none⟩ = some (.string t')) ∧ (v.cell? ⟨w.heap.size + 1 + 1, 0, none⟩ = some (.bool a) ∧ v.cell? ⟨w.heap.size + 1 + 1, 1, none⟩ = some (.int .i64 i) ∧ v.cell? ⟨w.heap.size + 1 + 1, 2, none⟩ = some (.bool c)) ∧ (v.cell? ⟨w.heap.size + 1 + 1 + 1, 0, none⟩ = some (.bool a') ∧ v.cell? ⟨w.heap.size + 1 + 1 + 1, 1, none⟩ = some (.int .i64 i') ∧ v.cell? ⟨w.heap.size + 1 + 1 + 1, 2, none⟩ = some (.bool c')) ∧ Below w2.heap.size w2 v)
    (first | (exact S0) | (exact KD.out _ S0) | (refine KS.out _ _ hb6 ?_; assumption) | (refine KS.out _ _ hb5 ?_; assumption) | (refine KS.out _ _ hb4 ?_; assumption) | (refine KS.out _ _ hb3 ?_; assumption) | (refine KS.out _ _ hb2 ?_; assumption) | (refine KS.out _ _ hb1 ?_; exact KD.out _ S0) | (refine KD.out _ ?_; assumption))
    (first | (go_at_call 10; (with_reducible refine (HI2 _ ?_).out.mono ?_); (focus (first | assumption | exact KD.out _ S0)); rintro e wa ⟨rfl, hb1⟩) | (go_at_call 10; (with_reducible refine (HJ2 _ ?_).out.mono ?_); (focus assumption); rintro e wb ⟨rfl, hb2⟩) | (go_at_call 10; (with_reducible refine (HS2 _ ?_).out.mono ?_); (focus assumption); rintro e wc ⟨rfl, hb3⟩) | (go_at_call 17; (with_reducible refine (HM _).out.mono ?_); rintro e wd ⟨rfl, hb4⟩) | (go_at_call 17; (with_reducible refine (HN _).out.mono ?_); rintro e we ⟨rfl, hb5⟩) | (go_at_call 17; (with_reducible refine (HO _).out.mono ?_); rintro e wf ⟨rfl, hb6⟩))
  rename_i hSx
  have BX := BE.trans (hSx.2.2.2.2.mono (by omega))
  go_wp2
  go_ret
  exact ⟨rfl, BX⟩

set_option maxHeartbeats 2000000 in
theorem yea (r q : Bool) (u s k h n u' s' k' h' n' : Int) (t t' : ByteArray) (a c a' c' : Bool) (i i' : Int) (w : World) (hN : Nd w) (hk : (k == 0) = false) (hk2 : ¬ k = 0) (hk3 : (k != 0) = true) (hm : mayB u s k h n t.size = true)
    (HI : ∀ W, Nd W → Hid (Calls Tryd.prog 10 #[cv u s k h n t, cv u' s' k' h' n' t'] W (BoolPost W r))) (HJ : ∀ W, Nd W → Hid (Calls Tryd.prog 10 #[cv u' s' k' h' n' t', cv u s k h n t] W (BoolPost W r))) (HS : ∀ W, Nd W → Hid (Calls Tryd.prog 10 #[cv u s k h n t, cv u s k h n t] W (BoolPost W true)))
    (HM : ∀ W, Hid (Calls Tryd.prog 17 #[kv a i c, kv a' i' c'] W (BoolPost W q))) (HN : ∀ W, Hid (Calls Tryd.prog 17 #[kv a' i' c', kv a i c] W (BoolPost W q))) (HO : ∀ W, Hid (Calls Tryd.prog 17 #[kv a i c, kv a i c] W (BoolPost W c))) : Calls Tryd.prog 5 #[cv u s k h n t, cv u' s' k' h' n' t', kv a i c, kv a' i' c'] w (UpPost w) := by
  have HA : ∀ W, Nd W → Hid (Calls Tryd.prog 15 #[cv u s k h n t] W (BoolPost W true)) := fun W hw => by have := may_any u s k h n t W hw; rw [hm] at this; exact this
  clear hm
  go_enter Tryd.func5, Tryd.ntmps5
  go_wp2_with fail
  have BW : Below w.heap.size w ((((w.alloc (.cells #[.int .i64 u, .int .i64 s, .int .i64 k, .int .i64 h, .int .i64 n, .string t] 23)).alloc (.cells #[.int .i64 u', .int .i64 s', .int .i64 k', .int .i64 h', .int .i64 n', .string t'] 23)).alloc (.cells #[.bool a, .int .i64 i, .bool c] 33)).alloc (.cells #[.bool a', .int .i64 i', .bool c'] 33)) := ((((((Below.refl _ _).alloc (Nat.le_refl _) _)).alloc (by simp) _).alloc (by simp; omega) _).alloc (by simp; omega) _)
  have Z0 : ((((w.alloc (.cells #[.int .i64 u, .int .i64 s, .int .i64 k, .int .i64 h, .int .i64 n, .string t] 23)).alloc (.cells #[.int .i64 u', .int .i64 s', .int .i64 k', .int .i64 h', .int .i64 n', .string t'] 23)).alloc (.cells #[.bool a, .int .i64 i, .bool c] 33)).alloc (.cells #[.bool a', .int .i64 i', .bool c'] 33)).heap.size = w.heap.size + 1 + 1 + 1 + 1 := by simp
  have C0 : Cb ((((w.alloc (.cells #[.int .i64 u, .int .i64 s, .int .i64 k, .int .i64 h, .int .i64 n, .string t] 23)).alloc (.cells #[.int .i64 u', .int .i64 s', .int .i64 k', .int .i64 h', .int .i64 n', .string t'] 23)).alloc (.cells #[.bool a, .int .i64 i, .bool c] 33)).alloc (.cells #[.bool a', .int .i64 i', .bool c'] 33)) w.heap.size u s k h n t := (((cb_new w u s k h n t).on ((Below.refl _ _).alloc (Nat.le_refl _) _) (by simp)).on ((Below.refl _ _).alloc (Nat.le_refl _) _) (by simp; omega)).on ((Below.refl _ _).alloc (Nat.le_refl _) _) (by simp; omega)
  have D0 : Cb ((((w.alloc (.cells #[.int .i64 u, .int .i64 s, .int .i64 k, .int .i64 h, .int .i64 n, .string t] 23)).alloc (.cells #[.int .i64 u', .int .i64 s', .int .i64 k', .int .i64 h', .int .i64 n', .string t'] 23)).alloc (.cells #[.bool a, .int .i64 i, .bool c] 33)).alloc (.cells #[.bool a', .int .i64 i', .bool c'] 33)) (w.heap.size + 1) u' s' k' h' n' t' := by
    have : Cb ((((w.alloc (.cells #[.int .i64 u, .int .i64 s, .int .i64 k, .int .i64 h, .int .i64 n, .string t] 23)).alloc (.cells #[.int .i64 u', .int .i64 s', .int .i64 k', .int .i64 h', .int .i64 n', .string t'] 23)).alloc (.cells #[.bool a, .int .i64 i, .bool c] 33)).alloc (.cells #[.bool a', .int .i64 i', .bool c'] 33)) ((w.alloc (.cells #[.int .i64 u, .int .i64 s, .int .i64 k, .int .i64 h, .int .i64 n, .string t] 23)).heap.size) u' s' k' h' n' t' := ((cb_new (w.alloc (.cells #[.int .i64 u, .int .i64 s, .int .i64 k, .int .i64 h, .int .i64 n, .string t] 23)) u' s' k' h' n' t').on ((Below.refl _ _).alloc (Nat.le_refl _) _) (by simp)).on ((Below.refl _ _).alloc (Nat.le_refl _) _) (by simp)
    rw [show (w.alloc (.cells #[.int .i64 u, .int .i64 s, .int .i64 k, .int .i64 h, .int .i64 n, .string t] 23)).heap.size = w.heap.size + 1 by simp] at this
    exact this
  have E0 : Kb ((((w.alloc (.cells #[.int .i64 u, .int .i64 s, .int .i64 k, .int .i64 h, .int .i64 n, .string t] 23)).alloc (.cells #[.int .i64 u', .int .i64 s', .int .i64 k', .int .i64 h', .int .i64 n', .string t'] 23)).alloc (.cells #[.bool a, .int .i64 i, .bool c] 33)).alloc (.cells #[.bool a', .int .i64 i', .bool c'] 33)) (w.heap.size + 1 + 1) a i c := by
    have : Kb ((((w.alloc (.cells #[.int .i64 u, .int .i64 s, .int .i64 k, .int .i64 h, .int .i64 n, .string t] 23)).alloc (.cells #[.int .i64 u', .int .i64 s', .int .i64 k', .int .i64 h', .int .i64 n', .string t'] 23)).alloc (.cells #[.bool a, .int .i64 i, .bool c] 33)).alloc (.cells #[.bool a', .int .i64 i', .bool c'] 33)) (((w.alloc (.cells #[.int .i64 u, .int .i64 s, .int .i64 k, .int .i64 h, .int .i64 n, .string t] 23)).alloc (.cells #[.int .i64 u', .int .i64 s', .int .i64 k', .int .i64 h', .int .i64 n', .string t'] 23)).heap.size) a i c := (kb_new ((w.alloc (.cells #[.int .i64 u, .int .i64 s, .int .i64 k, .int .i64 h, .int .i64 n, .string t] 23)).alloc (.cells #[.int .i64 u', .int .i64 s', .int .i64 k', .int .i64 h', .int .i64 n', .string t'] 23)) a i c).on ((Below.refl _ _).alloc (Nat.le_refl _) _) (by simp)
    rw [show ((w.alloc (.cells #[.int .i64 u, .int .i64 s, .int .i64 k, .int .i64 h, .int .i64 n, .string t] 23)).alloc (.cells #[.int .i64 u', .int .i64 s', .int .i64 k', .int .i64 h', .int .i64 n', .string t'] 23)).heap.size = w.heap.size + 1 + 1 by simp] at this
    exact this
  have F0 : Kb ((((w.alloc (.cells #[.int .i64 u, .int .i64 s, .int .i64 k, .int .i64 h, .int .i64 n, .string t] 23)).alloc (.cells #[.int .i64 u', .int .i64 s', .int .i64 k', .int .i64 h', .int .i64 n', .string t'] 23)).alloc (.cells #[.bool a, .int .i64 i, .bool c] 33)).alloc (.cells #[.bool a', .int .i64 i', .bool c'] 33)) (w.heap.size + 1 + 1 + 1) a' i' c' := by
    have := kb_new (((w.alloc (.cells #[.int .i64 u, .int .i64 s, .int .i64 k, .int .i64 h, .int .i64 n, .string t] 23)).alloc (.cells #[.int .i64 u', .int .i64 s', .int .i64 k', .int .i64 h', .int .i64 n', .string t'] 23)).alloc (.cells #[.bool a, .int .i64 i, .bool c] 33)) a' i' c'
    rw [show (((w.alloc (.cells #[.int .i64 u, .int .i64 s, .int .i64 k, .int .i64 h, .int .i64 n, .string t] 23)).alloc (.cells #[.int .i64 u', .int .i64 s', .int .i64 k', .int .i64 h', .int .i64 n', .string t'] 23)).alloc (.cells #[.bool a, .int .i64 i, .bool c] 33)).heap.size = w.heap.size + 1 + 1 + 1 by simp] at this
    exact this
  have N0 := hN.on BW
  generalize ((((w.alloc (.cells #[.int .i64 u, .int .i64 s, .int .i64 k, .int .i64 h, .int .i64 n, .string t] 23)).alloc (.cells #[.int .i64 u', .int .i64 s', .int .i64 k', .int .i64 h', .int .i64 n', .string t'] 23)).alloc (.cells #[.bool a, .int .i64 i, .bool c] 33)).alloc (.cells #[.bool a', .int .i64 i', .bool c'] 33)) = W0 at *
  refine (awake_any W0 N0).mono ?_
  rintro e w1 ⟨rfl, B1⟩
  have q1 := B1.size
  have N1 := N0.on B1
  obtain ⟨p0, p1, p2, p3, p4, p5⟩ := C0.on B1 (by omega)
  go_wp2_with fail
  clear p0 p1 p2 p3 p4 p5
  refine (HA _ N1).out.mono ?_
  rintro e w2 ⟨rfl, B2⟩
  have q2 := B2.size
  have N2 := N1.on B2
  have B02 := B1.trans (B2.mono q1)
  have CA := C0.on B02 (by omega)
  have DA := D0.on B02 (by omega)
  have EA := E0.on B02 (by omega)
  have FA := F0.on B02 (by omega)
  have BE := BW.trans (B02.mono BW.size)
  have z1 : w.heap.size < w2.heap.size := by omega
  have z2 : w.heap.size + 1 < w2.heap.size := by omega
  have z3 : w.heap.size + 1 + 1 < w2.heap.size := by omega
  have z4 : w.heap.size + 1 + 1 + 1 < w2.heap.size := by omega
  have S0 : Cb w2 w.heap.size u s k h n t ∧ Cb w2 (w.heap.size + 1) u' s' k' h' n' t' ∧ Kb w2 (w.heap.size + 1 + 1) a i c ∧ Kb w2 (w.heap.size + 1 + 1 + 1) a' i' c' ∧ Below w2.heap.size w2 w2 := ⟨CA, DA, EA, FA, Below.refl _ _⟩
  have KD : Hid (∀ v, (Cb v w.heap.size u s k h n t ∧ Cb v (w.heap.size + 1) u' s' k' h' n' t' ∧ Kb v (w.heap.size + 1 + 1) a i c ∧ Kb v (w.heap.size + 1 + 1 + 1) a' i' c' ∧ Below w2.heap.size w2 v) → (Cb v.drew w.heap.size u s k h n t ∧ Cb v.drew (w.heap.size + 1) u' s' k' h' n' t' ∧ Kb v.drew (w.heap.size + 1 + 1) a i c ∧ Kb v.drew (w.heap.size + 1 + 1 + 1) a' i' c' ∧ Below w2.heap.size w2 v.drew)) := fun v hS => keep5 z1 z2 z3 z4 hS ((Below.refl _ _).drew)
  have KS : Hid (∀ v v', Below v.heap.size v v' → (Cb v w.heap.size u s k h n t ∧ Cb v (w.heap.size + 1) u' s' k' h' n' t' ∧ Kb v (w.heap.size + 1 + 1) a i c ∧ Kb v (w.heap.size + 1 + 1 + 1) a' i' c' ∧ Below w2.heap.size w2 v) → (Cb v' w.heap.size u s k h n t ∧ Cb v' (w.heap.size + 1) u' s' k' h' n' t' ∧ Kb v' (w.heap.size + 1 + 1) a i c ∧ Kb v' (w.heap.size + 1 + 1 + 1) a' i' c' ∧ Below w2.heap.size w2 v')) := fun v v' hb hS => keep5 z1 z2 z3 z4 hS (hb.mono hS.2.2.2.2.size)
  have HI2 : ∀ W, (Cb W w.heap.size u s k h n t ∧ Cb W (w.heap.size + 1) u' s' k' h' n' t' ∧ Kb W (w.heap.size + 1 + 1) a i c ∧ Kb W (w.heap.size + 1 + 1 + 1) a' i' c' ∧ Below w2.heap.size w2 W) → Hid (Calls Tryd.prog 10 #[cv u s k h n t, cv u' s' k' h' n' t'] W (BoolPost W r)) := fun W hS => HI W (N2.on hS.2.2.2.2)
  have HJ2 : ∀ W, (Cb W w.heap.size u s k h n t ∧ Cb W (w.heap.size + 1) u' s' k' h' n' t' ∧ Kb W (w.heap.size + 1 + 1) a i c ∧ Kb W (w.heap.size + 1 + 1 + 1) a' i' c' ∧ Below w2.heap.size w2 W) → Hid (Calls Tryd.prog 10 #[cv u' s' k' h' n' t', cv u s k h n t] W (BoolPost W r)) := fun W hS => HJ W (N2.on hS.2.2.2.2)
  have HS2 : ∀ W, (Cb W w.heap.size u s k h n t ∧ Cb W (w.heap.size + 1) u' s' k' h' n' t' ∧ Kb W (w.heap.size + 1 + 1) a i c ∧ Kb W (w.heap.size + 1 + 1 + 1) a' i' c' ∧ Below w2.heap.size w2 W) → Hid (Calls Tryd.prog 10 #[cv u s k h n t, cv u s k h n t] W (BoolPost W true)) := fun W hS => HS W (N2.on hS.2.2.2.2)
  obtain ⟨p0, p1, p2, p3, p4, p5⟩ := id CA
  obtain ⟨r0, r1, r2, r3, r4, r5⟩ := id DA
  obtain ⟨k0, k1, k2⟩ := id EA
  obtain ⟨l0, l1, l2⟩ := id FA
  clear HI HJ HS HA B1 B2 B02 C0 D0 E0 F0 CA DA EA FA N0 N1 N2 hN BW
  go_wp2_with fail
  go_region_held3 (fun v => (v.cell? ⟨w.heap.size, 0, none⟩ = some (.int .i64 u) ∧ v.cell? ⟨w.heap.size, 1, none⟩ = some (.int .i64 s) ∧ v.cell? ⟨w.heap.size, 2, none⟩ = some (.int .i64 k) ∧ v.cell? ⟨w.heap.size, 3, none⟩ = some (.int .i64 h) ∧ v.cell? ⟨w.heap.size, 4, none⟩ = some (.int .i64 n) ∧ v.cell? ⟨w.heap.size, 5, none⟩ = some (.string t)) ∧ (v.cell? ⟨w.heap.size + 1, 0, none⟩ = some (.int .i64 u') ∧ v.cell? ⟨w.heap.size + 1, 1, none⟩ = some (.int .i64 s') ∧ v.cell? ⟨w.heap.size + 1, 2, none⟩ = some (.int .i64 k') ∧ v.cell? ⟨w.heap.size + 1, 3, none⟩ = some (.int .i64 h') ∧ v.cell? ⟨w.heap.size + 1, 4, none⟩ = some (.int .i64 n') ∧ v.cell? ⟨w.heap.size + 1, 5, none⟩ = some (.string t')) ∧ (v.cell? ⟨w.heap.size + 1 + 1, 0, none⟩ = some (.bool a) ∧ v.cell? ⟨w.heap.size + 1 + 1, 1, none⟩ = some (.int .i64 i) ∧ v.cell? ⟨w.heap.size + 1 + 1, 2, none⟩ = some (.bool c)) ∧ (v.cell? ⟨w.heap.size + 1 + 1 + 1, 0, none⟩ = some (.bool a') ∧ v.cell? ⟨w.heap.size + 1 + 1 + 1, 1, none⟩ = some (.int .i64 i') ∧ v.cell? ⟨w.heap.size + 1 + 1 + 1, 2, none⟩ = some (.bool c')) ∧ Below w2.heap.size w2 v)
    (first | (exact S0) | (exact KD.out _ S0) | (refine KS.out _ _ hb6 ?_; assumption) | (refine KS.out _ _ hb5 ?_; assumption) | (refine KS.out _ _ hb4 ?_; assumption) | (refine KS.out _ _ hb3 ?_; assumption) | (refine KS.out _ _ hb2 ?_; assumption) | (refine KS.out _ _ hb1 ?_; exact KD.out _ S0) | (refine KD.out _ ?_; assumption))
    (first | (go_at_call 10; (with_reducible refine (HI2 _ ?_).out.mono ?_); (focus (first | assumption | exact KD.out _ S0)); rintro e wa ⟨rfl, hb1⟩) | (go_at_call 10; (with_reducible refine (HJ2 _ ?_).out.mono ?_); (focus assumption); rintro e wb ⟨rfl, hb2⟩) | (go_at_call 10; (with_reducible refine (HS2 _ ?_).out.mono ?_); (focus assumption); rintro e wc ⟨rfl, hb3⟩) | (go_at_call 17; (with_reducible refine (HM _).out.mono ?_); rintro e wd ⟨rfl, hb4⟩) | (go_at_call 17; (with_reducible refine (HN _).out.mono ?_); rintro e we ⟨rfl, hb5⟩) | (go_at_call 17; (with_reducible refine (HO _).out.mono ?_); rintro e wf ⟨rfl, hb6⟩))
  rename_i hSx
  have BX := BE.trans (hSx.2.2.2.2.mono (by omega))
  go_wp2
  go_ret
  exact ⟨rfl, BX⟩

theorem walk (x0 x1 : Cd) (x2 x3 : Ky) (w : World) (hN : Nd w) : Calls Tryd.prog 5 #[cv x0.u x0.s x0.k x0.h x0.n x0.t, cv x1.u x1.s x1.k x1.h x1.n x1.t, kv x2.a x2.i x2.c, kv x3.a x3.i x3.c] w (UpPost w) := by
  have HI : ∀ W, Nd W → Hid (Calls Tryd.prog 10 #[cv x0.u x0.s x0.k x0.h x0.n x0.t, cv x1.u x1.s x1.k x1.h x1.n x1.t] W (BoolPost W (itf x0 x1))) := fun W h => itf_any x0 x1 W h
  have HJ : ∀ W, Nd W → Hid (Calls Tryd.prog 10 #[cv x1.u x1.s x1.k x1.h x1.n x1.t, cv x0.u x0.s x0.k x0.h x0.n x0.t] W (BoolPost W (itf x0 x1))) := fun W h => by have := itf_any x1 x0 W h; rw [itf_sym] at this; exact this
  have HS : ∀ W, Nd W → Hid (Calls Tryd.prog 10 #[cv x0.u x0.s x0.k x0.h x0.n x0.t, cv x0.u x0.s x0.k x0.h x0.n x0.t] W (BoolPost W x0.on)) := fun W h => by have := itf_any x0 x0 W h; rw [itf_self] at this; exact this
  have HM : ∀ W, Hid (Calls Tryd.prog 17 #[kv x2.a x2.i x2.c, kv x3.a x3.i x3.c] W (BoolPost W (mt x2 x3))) := fun W => meet_any x2 x3 W
  have HN : ∀ W, Hid (Calls Tryd.prog 17 #[kv x3.a x3.i x3.c, kv x2.a x2.i x2.c] W (BoolPost W (mt x2 x3))) := fun W => by
    have := meet_any x3 x2 W
    rw [show mt x3 x2 = mt x2 x3 from ?_] at this
    · exact this
    · rw [Bool.eq_iff_iff]; simp only [mt, Bool.and_eq_true, Bool.or_eq_true, beq_iff_eq]
      constructor <;> rintro ⟨h1, h2, h3⟩ <;> exact ⟨h1.symm, h2.symm, h3.symm⟩
  have HO : ∀ W, Hid (Calls Tryd.prog 17 #[kv x2.a x2.i x2.c, kv x2.a x2.i x2.c] W (BoolPost W x2.c)) := fun W => by have := meet_any x2 x2 W; rw [show mt x2 x2 = x2.c by simp [mt]] at this; exact this
  rcases hm : x0.may with _ | _
  · rw [on_may hm] at HS
    exact nay _ _ _ _ _ _ _ _ _ _ _ _ _ _ _ _ _ _ _ _ w hN hm HI HJ HS HM HN HO
  · by_cases hk : x0.k = 0
    · rw [on_k hk] at HS
      unfold Cd.may at hm
      rw [hk] at hm HI HJ HS ⊢
      exact nop _ _ _ _ _ _ _ _ _ _ _ _ _ _ _ _ _ _ _ w hN hm HI HJ HS HM HN HO
    · have kx : (x0.k == 0) = false := by rw [beq_eq_false_iff_ne]; exact hk
      rw [on_yes kx hm] at HS
      exact yea _ _ _ _ _ _ _ _ _ _ _ _ _ _ _ _ _ _ _ _ w hN kx hk (by rw [bne, kx]; rfl) hm HI HJ HS HM HN HO

set_option maxRecDepth 100000 in
theorem lifted (os : Os) (started : os.Started) (H : Type) (enc : TypeId × Value → H) :
    ReturnsInHanded {} Tryd.checked os 5 .any (fun w args => (Rows.keysBothSpec.pre enc Tryd.prog Tryd.f5 [] false w args ∧ laidMetH Tryd.prog laid4 w) ∧ sizedMet enc Tryd.prog Tryd.f5 (OpenSpec.ofChange Rows.keysBothSpec) false w args)
      (Rows.keysBothSpec.post enc Tryd.prog Tryd.f5 false true false false) := by
  refine returnsInHanded_of_change_and (C := Tryd.checked) (X := fun w _ => laidMetH Tryd.prog laid4 w) (fun _ _ _ hh h => h.of_heap hh) own started (by kernel_rfl) Tryd.func5
    (ChangeSpec.witness_shaped (enc := enc) (C := Tryd.checked) (os := os) (X := fun w _ => laidMetH Tryd.prog laid4 w) false (World.doorLaid Tryd.prog 18 os) #[.agg #[.int .i64 0, .int .i64 0, .int .i64 0, .int .i64 0, .int .i64 0, .string ⟨#[]⟩], .agg #[.int .i64 0, .int .i64 0, .int .i64 0, .int .i64 0, .int .i64 0, .string ⟨#[]⟩], .agg #[.bool false, .int .i64 0, .bool false], .agg #[.bool false, .int .i64 0, .bool false]] 8 rfl (World.shaped_of_RefB (by kernel_rfl) (by kernel_rfl)) (by kernel_rfl) (by kernel_rfl) (by kernel_rfl) (door_met os _)) ?_
  intro W base args ds gs before hval0 hW _ _ hL _
  have hN := nd_of_laid hL
  have hval : ∀ (j : Nat) t v, Tryd.f5.params[j]? = some t → args[j]? = some v → Value.okWide Tryd.prog W .any base t v := hval0
  have hW' := hW
  obtain ⟨p, q, hA0, hV, rfl, hfz, hnd⟩ := hW
  have hA : DataW.TrodAll enc Tryd.prog W 0 (fun _ => true) true Tryd.f5.params.toList args.toList ds p := hA0
  rw [Tryd.params5] at hA hval
  obtain ⟨v0, vs0, d0, ds0, p0, q0, hargs, rfl, rfl, h0, r0⟩ := trodAll_cons hA
  obtain ⟨v1, vs1, d1, ds1, p1, q1, rfl, rfl, rfl, h1, r1⟩ := trodAll_cons r0
  obtain ⟨v2, vs2, d2, ds2, p2, q2, rfl, rfl, rfl, h2, r2⟩ := trodAll_cons r1
  obtain ⟨v3, vs3, d3, ds3, p3, q3, rfl, rfl, rfl, h3, r3⟩ := trodAll_cons r2
  obtain ⟨rfl, rfl, rfl⟩ := trodAll_nil r3
  obtain rfl : args = #[v0, v1, v2, v3] := by cases args; simp_all
  obtain ⟨rfl, rfl⟩ := trodVars_none hV
  have k0' := h0
  have lt0 : ∀ x ∈ p0, x.block < W.heap.size := by obtain ⟨m, hm⟩ := k0'; exact DataW.trod_lt m _ _ _ hm
  obtain ⟨x0, rfl⟩ := open_cmd (hval 0 23 v0 rfl rfl) h0
  have k1' := h1
  have lt1 : ∀ x ∈ p1, x.block < W.heap.size := by obtain ⟨m, hm⟩ := k1'; exact DataW.trod_lt m _ _ _ hm
  obtain ⟨x1, rfl⟩ := open_cmd (hval 1 23 v1 rfl rfl) h1
  have k2' := h2
  have lt2 : ∀ x ∈ p2, x.block < W.heap.size := by obtain ⟨m, hm⟩ := k2'; exact DataW.trod_lt m _ _ _ hm
  obtain ⟨x2, rfl⟩ := open_key (hval 2 33 v2 rfl rfl) h2
  have k3' := h3
  have lt3 : ∀ x ∈ p3, x.block < W.heap.size := by obtain ⟨m, hm⟩ := k3'; exact DataW.trod_lt m _ _ _ hm
  obtain ⟨x3, rfl⟩ := open_key (hval 3 33 v3 rfl rfl) h3
  clear hA0 hval0
  refine (walk x0 x1 x2 x3 W hN    ).mono fun e W' ⟨he, bel⟩ => ?_
  subst he
  exact ⟨_, rfl, _, _, _, [], _, [], hW', trodAll_mk1 (shut_bool Tryd.underlying4 _), (trodAll_cons_mk (Below.trod laidOut (by kernel_rfl) (of_decide_eq_true (by kernel_rfl)) k0' bel lt0) (trodAll_cons_mk (Below.trod laidOut (by kernel_rfl) (of_decide_eq_true (by kernel_rfl)) k1' bel lt1) (trodAll_cons_mk (Below.trod laidOut (by kernel_rfl) (of_decide_eq_true (by kernel_rfl)) k2' bel lt2) (trodAll_cons_mk (Below.trod laidOut (by kernel_rfl) (of_decide_eq_true (by kernel_rfl)) k3' bel lt3) trodAll_mk0)))), rfl, bel.frame _, fun h => by cases h⟩

theorem over : Rows.KeysBothSaid :=
  OpenClaim.holds_of_wide 5 Tryd.f5 rfl rfl rfl rfl rfl rfl rfl ⟨rfl, rfl, rfl, rfl, rfl⟩ rfl rfl rfl rfl rfl (by kernel_rfl) Tryd.func5 (by kernel_rfl)
    (of_decide_eq_true (by kernel_rfl)) (by unfold Func.isWrapper; first | (rw [if_pos (by decide +kernel)]; kernel_rfl) | (rw [if_neg (by decide +kernel)]; exact ⟨rfl, rfl⟩))
    (fun os started H enc _ => lifted os started H enc)

theorem proved : Rows.KeysBothCardSaid :=
  Claim7.holds_tied_plain_at .later [] [.data] true (true, "bf996c1659db8f8bd19cd74e829fb44e501c00b08f30b8180ae3fe74fe87094c") false
    over (fun _ h => by cases h) (by kernel_rfl) (fun _ h => by cases h) keysBoth_row_tie rfl ⟨rfl, rfl⟩ (by kernel_rfl) rfl
    (fun f fn hf hfn => by
      obtain rfl : f = 5 := Option.some.inj ((show Tryd.prog.funcNamed "colloquy/colloquylaw05.KeysBoth" = some 5 by kernel_rfl).symm.trans hf) |>.symm
      obtain rfl : fn = Tryd.f5 := (Option.some.inj (Tryd.func5.symm.trans hfn)).symm
      exact ⟨by kernel_rfl, fun j t ht => by
        rw [Tryd.params5] at ht
        have hm : t ∈ [23, 23, 33, 33] := by simpa using Array.mem_of_getElem? ht
        have hall : ([23, 23, 33, 33].all fun u => !Tryd.prog.wantsStandIn u) = true := by kernel_rfl
        exact (show Tryd.prog.wantsStandIn t = false by simpa using List.all_eq_true.1 hall t hm)⟩)
    (by kernel_rfl)
#print axioms proved
end Go.Proofs.YtdpjkbhofebdiaaDoor.keysBoth
