/-
  Whether any two commands interfere, and any one with some of others, is what the document says: KeysTell answers true whatever the two commands and the list; they read as they did. Conditions: none beyond the card's own (the table of what kinds need reads as its initialiser lays it).
-/
import Derived.Test.YtdpjkbhofebdiaaDoorOpen
import Derived.Deep.RegionHeld3
import Derived.Deep.DrawnRows
import Derived.Test.YtdpjkbhofebdiaaDoorCards
import Derived.Test.YtdpjkbhofebdiaaDoorTie
import Derived.SevenTiedAt
namespace Go.Proofs.YtdpjkbhofebdiaaDoor.keysTell
open Go.ChangeShapes Go.WideShapes Go.ChangeAt Go.RowKit Go.Joins
set_option linter.unusedVariables false

theorem long1 (u s k h n u' s' k' h' n' : Int) (t t' : ByteArray) (A : Option Addr) (c : Nat) (l : List Cd) (w : World) (hN : Nd w) (hl : (100 : Int) < (l.length : Int)) : Calls Tryd.prog 3 #[cv u s k h n t, cv u' s' k' h' n' t', .slice A l.length c] w (UpPost w) := by
  go_enter Tryd.func3, Tryd.ntmps3
  go_wp2_with fail
  have BW : Below w.heap.size w ((w.alloc (.cells #[.int .i64 u, .int .i64 s, .int .i64 k, .int .i64 h, .int .i64 n, .string t] 23)).alloc (.cells #[.int .i64 u', .int .i64 s', .int .i64 k', .int .i64 h', .int .i64 n', .string t'] 23)) := ((Below.refl _ _).alloc (Nat.le_refl _) _).alloc (by simp) _
  have Z0 : ((w.alloc (.cells #[.int .i64 u, .int .i64 s, .int .i64 k, .int .i64 h, .int .i64 n, .string t] 23)).alloc (.cells #[.int .i64 u', .int .i64 s', .int .i64 k', .int .i64 h', .int .i64 n', .string t'] 23)).heap.size = w.heap.size + 1 + 1 := by simp
  have C0 : Cb ((w.alloc (.cells #[.int .i64 u, .int .i64 s, .int .i64 k, .int .i64 h, .int .i64 n, .string t] 23)).alloc (.cells #[.int .i64 u', .int .i64 s', .int .i64 k', .int .i64 h', .int .i64 n', .string t'] 23)) w.heap.size u s k h n t := (cb_new w u s k h n t).on ((Below.refl _ _).alloc (Nat.le_refl _) _) (by simp)
  have D0 : Cb ((w.alloc (.cells #[.int .i64 u, .int .i64 s, .int .i64 k, .int .i64 h, .int .i64 n, .string t] 23)).alloc (.cells #[.int .i64 u', .int .i64 s', .int .i64 k', .int .i64 h', .int .i64 n', .string t'] 23)) (w.heap.size + 1) u' s' k' h' n' t' := by
    have := cb_new (w.alloc (.cells #[.int .i64 u, .int .i64 s, .int .i64 k, .int .i64 h, .int .i64 n, .string t] 23)) u' s' k' h' n' t'
    rw [show (w.alloc (.cells #[.int .i64 u, .int .i64 s, .int .i64 k, .int .i64 h, .int .i64 n, .string t] 23)).heap.size = w.heap.size + 1 by simp] at this
    exact this
  have N0 := hN.on BW
  generalize ((w.alloc (.cells #[.int .i64 u, .int .i64 s, .int .i64 k, .int .i64 h, .int .i64 n, .string t] 23)).alloc (.cells #[.int .i64 u', .int .i64 s', .int .i64 k', .int .i64 h', .int .i64 n', .string t'] 23)) = W0 at *
  refine (awake_any W0 N0).mono ?_
  rintro e w1 ⟨rfl, B1⟩
  have q1 := B1.size
  have N1 := N0.on B1
  have CA := C0.on B1 (by omega)
  have DA := D0.on B1 (by omega)
  obtain ⟨p0, p1, p2, p3, p4, p5⟩ := id CA
  obtain ⟨r0, r1, r2, r3, r4, r5⟩ := id DA
  go_wp2
  go_ret
  exact ⟨rfl, BW.trans (B1.mono BW.size)⟩

theorem long2 (u s k h n u' s' k' h' n' : Int) (t t' : ByteArray) (A : Option Addr) (c : Nat) (l : List Cd) (w : World) (hN : Nd w) (hl : ¬ (100 : Int) < (l.length : Int)) (ht : (1000 : Int) < (t.size : Int)) : Calls Tryd.prog 3 #[cv u s k h n t, cv u' s' k' h' n' t', .slice A l.length c] w (UpPost w) := by
  go_enter Tryd.func3, Tryd.ntmps3
  go_wp2_with fail
  have BW : Below w.heap.size w ((w.alloc (.cells #[.int .i64 u, .int .i64 s, .int .i64 k, .int .i64 h, .int .i64 n, .string t] 23)).alloc (.cells #[.int .i64 u', .int .i64 s', .int .i64 k', .int .i64 h', .int .i64 n', .string t'] 23)) := ((Below.refl _ _).alloc (Nat.le_refl _) _).alloc (by simp) _
  have Z0 : ((w.alloc (.cells #[.int .i64 u, .int .i64 s, .int .i64 k, .int .i64 h, .int .i64 n, .string t] 23)).alloc (.cells #[.int .i64 u', .int .i64 s', .int .i64 k', .int .i64 h', .int .i64 n', .string t'] 23)).heap.size = w.heap.size + 1 + 1 := by simp
  have C0 : Cb ((w.alloc (.cells #[.int .i64 u, .int .i64 s, .int .i64 k, .int .i64 h, .int .i64 n, .string t] 23)).alloc (.cells #[.int .i64 u', .int .i64 s', .int .i64 k', .int .i64 h', .int .i64 n', .string t'] 23)) w.heap.size u s k h n t := (cb_new w u s k h n t).on ((Below.refl _ _).alloc (Nat.le_refl _) _) (by simp)
  have D0 : Cb ((w.alloc (.cells #[.int .i64 u, .int .i64 s, .int .i64 k, .int .i64 h, .int .i64 n, .string t] 23)).alloc (.cells #[.int .i64 u', .int .i64 s', .int .i64 k', .int .i64 h', .int .i64 n', .string t'] 23)) (w.heap.size + 1) u' s' k' h' n' t' := by
    have := cb_new (w.alloc (.cells #[.int .i64 u, .int .i64 s, .int .i64 k, .int .i64 h, .int .i64 n, .string t] 23)) u' s' k' h' n' t'
    rw [show (w.alloc (.cells #[.int .i64 u, .int .i64 s, .int .i64 k, .int .i64 h, .int .i64 n, .string t] 23)).heap.size = w.heap.size + 1 by simp] at this
    exact this
  have N0 := hN.on BW
  generalize ((w.alloc (.cells #[.int .i64 u, .int .i64 s, .int .i64 k, .int .i64 h, .int .i64 n, .string t] 23)).alloc (.cells #[.int .i64 u', .int .i64 s', .int .i64 k', .int .i64 h', .int .i64 n', .string t'] 23)) = W0 at *
  refine (awake_any W0 N0).mono ?_
  rintro e w1 ⟨rfl, B1⟩
  have q1 := B1.size
  have N1 := N0.on B1
  have CA := C0.on B1 (by omega)
  have DA := D0.on B1 (by omega)
  obtain ⟨p0, p1, p2, p3, p4, p5⟩ := id CA
  obtain ⟨r0, r1, r2, r3, r4, r5⟩ := id DA
  go_wp2
  go_ret
  exact ⟨rfl, BW.trans (B1.mono BW.size)⟩

theorem long3 (u s k h n u' s' k' h' n' : Int) (t t' : ByteArray) (A : Option Addr) (c : Nat) (l : List Cd) (w : World) (hN : Nd w) (hl : ¬ (100 : Int) < (l.length : Int)) (ht : ¬ (1000 : Int) < (t.size : Int)) (ht' : (1000 : Int) < (t'.size : Int)) : Calls Tryd.prog 3 #[cv u s k h n t, cv u' s' k' h' n' t', .slice A l.length c] w (UpPost w) := by
  go_enter Tryd.func3, Tryd.ntmps3
  go_wp2_with fail
  have BW : Below w.heap.size w ((w.alloc (.cells #[.int .i64 u, .int .i64 s, .int .i64 k, .int .i64 h, .int .i64 n, .string t] 23)).alloc (.cells #[.int .i64 u', .int .i64 s', .int .i64 k', .int .i64 h', .int .i64 n', .string t'] 23)) := ((Below.refl _ _).alloc (Nat.le_refl _) _).alloc (by simp) _
  have Z0 : ((w.alloc (.cells #[.int .i64 u, .int .i64 s, .int .i64 k, .int .i64 h, .int .i64 n, .string t] 23)).alloc (.cells #[.int .i64 u', .int .i64 s', .int .i64 k', .int .i64 h', .int .i64 n', .string t'] 23)).heap.size = w.heap.size + 1 + 1 := by simp
  have C0 : Cb ((w.alloc (.cells #[.int .i64 u, .int .i64 s, .int .i64 k, .int .i64 h, .int .i64 n, .string t] 23)).alloc (.cells #[.int .i64 u', .int .i64 s', .int .i64 k', .int .i64 h', .int .i64 n', .string t'] 23)) w.heap.size u s k h n t := (cb_new w u s k h n t).on ((Below.refl _ _).alloc (Nat.le_refl _) _) (by simp)
  have D0 : Cb ((w.alloc (.cells #[.int .i64 u, .int .i64 s, .int .i64 k, .int .i64 h, .int .i64 n, .string t] 23)).alloc (.cells #[.int .i64 u', .int .i64 s', .int .i64 k', .int .i64 h', .int .i64 n', .string t'] 23)) (w.heap.size + 1) u' s' k' h' n' t' := by
    have := cb_new (w.alloc (.cells #[.int .i64 u, .int .i64 s, .int .i64 k, .int .i64 h, .int .i64 n, .string t] 23)) u' s' k' h' n' t'
    rw [show (w.alloc (.cells #[.int .i64 u, .int .i64 s, .int .i64 k, .int .i64 h, .int .i64 n, .string t] 23)).heap.size = w.heap.size + 1 by simp] at this
    exact this
  have N0 := hN.on BW
  generalize ((w.alloc (.cells #[.int .i64 u, .int .i64 s, .int .i64 k, .int .i64 h, .int .i64 n, .string t] 23)).alloc (.cells #[.int .i64 u', .int .i64 s', .int .i64 k', .int .i64 h', .int .i64 n', .string t'] 23)) = W0 at *
  refine (awake_any W0 N0).mono ?_
  rintro e w1 ⟨rfl, B1⟩
  have q1 := B1.size
  have N1 := N0.on B1
  have CA := C0.on B1 (by omega)
  have DA := D0.on B1 (by omega)
  obtain ⟨p0, p1, p2, p3, p4, p5⟩ := id CA
  obtain ⟨r0, r1, r2, r3, r4, r5⟩ := id DA
  go_wp2
  go_ret
  exact ⟨rfl, BW.trans (B1.mono BW.size)⟩

set_option maxHeartbeats 1000000 in
theorem rest (r q : Bool) (u s k h n u' s' k' h' n' : Int) (t t' : ByteArray) (A : Option Addr) (c : Nat) (l : List Cd) (w : World) (hN : Nd w) (hl : ¬ (100 : Int) < (l.length : Int)) (ht : ¬ (1000 : Int) < (t.size : Int)) (ht' : ¬ (1000 : Int) < (t'.size : Int)) (hs : Cs w w.heap.size A l)
    (HI : ∀ W, Nd W → Hid (Calls Tryd.prog 10 #[cv u s k h n t, cv u' s' k' h' n' t'] W (BoolPost W r))) (HR : ∀ W, Hid (Calls Tryd.prog 11 #[cv u s k h n t, cv u' s' k' h' n' t'] W (BoolPost W r)))
    (HA : ∀ W, Nd W → Cs W W.heap.size A l → Hid (Calls Tryd.prog 12 #[cv u s k h n t, .slice A l.length c] W (BoolPost W q))) (HB : ∀ W, Cs W W.heap.size A l → Hid (Calls Tryd.prog 13 #[cv u s k h n t, .slice A l.length c] W (BoolPost W q))) :
    Calls Tryd.prog 3 #[cv u s k h n t, cv u' s' k' h' n' t', .slice A l.length c] w (UpPost w) := by
  go_enter Tryd.func3, Tryd.ntmps3
  go_wp2_with fail
  have BW : Below w.heap.size w ((w.alloc (.cells #[.int .i64 u, .int .i64 s, .int .i64 k, .int .i64 h, .int .i64 n, .string t] 23)).alloc (.cells #[.int .i64 u', .int .i64 s', .int .i64 k', .int .i64 h', .int .i64 n', .string t'] 23)) := ((Below.refl _ _).alloc (Nat.le_refl _) _).alloc (by simp) _
  have Z0 : ((w.alloc (.cells #[.int .i64 u, .int .i64 s, .int .i64 k, .int .i64 h, .int .i64 n, .string t] 23)).alloc (.cells #[.int .i64 u', .int .i64 s', .int .i64 k', .int .i64 h', .int .i64 n', .string t'] 23)).heap.size = w.heap.size + 1 + 1 := by simp
  have C0 : Cb ((w.alloc (.cells #[.int .i64 u, .int .i64 s, .int .i64 k, .int .i64 h, .int .i64 n, .string t] 23)).alloc (.cells #[.int .i64 u', .int .i64 s', .int .i64 k', .int .i64 h', .int .i64 n', .string t'] 23)) w.heap.size u s k h n t := (cb_new w u s k h n t).on ((Below.refl _ _).alloc (Nat.le_refl _) _) (by simp)
  have D0 : Cb ((w.alloc (.cells #[.int .i64 u, .int .i64 s, .int .i64 k, .int .i64 h, .int .i64 n, .string t] 23)).alloc (.cells #[.int .i64 u', .int .i64 s', .int .i64 k', .int .i64 h', .int .i64 n', .string t'] 23)) (w.heap.size + 1) u' s' k' h' n' t' := by
    have := cb_new (w.alloc (.cells #[.int .i64 u, .int .i64 s, .int .i64 k, .int .i64 h, .int .i64 n, .string t] 23)) u' s' k' h' n' t'
    rw [show (w.alloc (.cells #[.int .i64 u, .int .i64 s, .int .i64 k, .int .i64 h, .int .i64 n, .string t] 23)).heap.size = w.heap.size + 1 by simp] at this
    exact this
  have N0 := hN.on BW
  generalize ((w.alloc (.cells #[.int .i64 u, .int .i64 s, .int .i64 k, .int .i64 h, .int .i64 n, .string t] 23)).alloc (.cells #[.int .i64 u', .int .i64 s', .int .i64 k', .int .i64 h', .int .i64 n', .string t'] 23)) = W0 at *
  refine (awake_any W0 N0).mono ?_
  rintro e w1 ⟨rfl, B1⟩
  have q1 := B1.size
  have N1 := N0.on B1
  have CA := C0.on B1 (by omega)
  have DA := D0.on B1 (by omega)
  obtain ⟨p0, p1, p2, p3, p4, p5⟩ := id CA
  obtain ⟨r0, r1, r2, r3, r4, r5⟩ := id DA
  have hz : w.heap.size < w1.heap.size := by omega
  have hz' : w.heap.size + 1 < w1.heap.size := by omega
  have S0 : Cb w1 w.heap.size u s k h n t ∧ Cb w1 (w.heap.size + 1) u' s' k' h' n' t' ∧ Below w1.heap.size w1 w1 := ⟨CA, DA, Below.refl _ _⟩
  have KD : Hid (∀ v, (Cb v w.heap.size u s k h n t ∧ Cb v (w.heap.size + 1) u' s' k' h' n' t' ∧ Below w1.heap.size w1 v) → (Cb v.drew w.heap.size u s k h n t ∧ Cb v.drew (w.heap.size + 1) u' s' k' h' n' t' ∧ Below w1.heap.size w1 v.drew)) := fun v hS => keep2 hz hz' hS ((Below.refl _ _).drew)
  have KS : Hid (∀ v v', Below v.heap.size v v' → (Cb v w.heap.size u s k h n t ∧ Cb v (w.heap.size + 1) u' s' k' h' n' t' ∧ Below w1.heap.size w1 v) → (Cb v' w.heap.size u s k h n t ∧ Cb v' (w.heap.size + 1) u' s' k' h' n' t' ∧ Below w1.heap.size w1 v')) := fun v v' hb hS => keep2 hz hz' hS (hb.mono hS.2.2.size)
  have BE := BW.trans (B1.mono BW.size)
  have S1 := (hs.below BE (Nat.le_refl _)).mono BE.size
  have HI2 : ∀ W, (Cb W w.heap.size u s k h n t ∧ Cb W (w.heap.size + 1) u' s' k' h' n' t' ∧ Below w1.heap.size w1 W) → Hid (Calls Tryd.prog 10 #[cv u s k h n t, cv u' s' k' h' n' t'] W (BoolPost W r)) := fun W hS => HI W (N1.on hS.2.2)
  have HA2 : ∀ W, (Cb W w.heap.size u s k h n t ∧ Cb W (w.heap.size + 1) u' s' k' h' n' t' ∧ Below w1.heap.size w1 W) → Hid (Calls Tryd.prog 12 #[cv u s k h n t, .slice A l.length c] W (BoolPost W q)) := fun W hS => HA W (N1.on hS.2.2) ((S1.below hS.2.2 (Nat.le_refl _)).mono hS.2.2.size)
  have HB2 : ∀ W, (Cb W w.heap.size u s k h n t ∧ Cb W (w.heap.size + 1) u' s' k' h' n' t' ∧ Below w1.heap.size w1 W) → Hid (Calls Tryd.prog 13 #[cv u s k h n t, .slice A l.length c] W (BoolPost W q)) := fun W hS => HB W ((S1.below hS.2.2 (Nat.le_refl _)).mono hS.2.2.size)
  clear HI HA HB C0 D0 CA DA B1 N0 N1 hN hs S1
  go_wp2_with fail
  go_region_held3 (fun v => (v.cell? ⟨w.heap.size, 0, none⟩ = some (.int .i64 u) ∧ v.cell? ⟨w.heap.size, 1, none⟩ = some (.int .i64 s) ∧ v.cell? ⟨w.heap.size, 2, none⟩ = some (.int .i64 k) ∧ v.cell? ⟨w.heap.size, 3, none⟩ = some (.int .i64 h) ∧ v.cell? ⟨w.heap.size, 4, none⟩ = some (.int .i64 n) ∧ v.cell? ⟨w.heap.size, 5, none⟩ = some (.string t)) ∧ (v.cell? ⟨w.heap.size + 1, 0, none⟩ = some (.int .i64 u') ∧ v.cell? ⟨w.heap.size + 1, 1, none⟩ = some (.int .i64 s') ∧ v.cell? ⟨w.heap.size + 1, 2, none⟩ = some (.int .i64 k') ∧ v.cell? ⟨w.heap.size + 1, 3, none⟩ = some (.int .i64 h') ∧ v.cell? ⟨w.heap.size + 1, 4, none⟩ = some (.int .i64 n') ∧ v.cell? ⟨w.heap.size + 1, 5, none⟩ = some (.string t')) ∧ Below w1.heap.size w1 v)
    (first | (exact S0) | (exact KD.out _ S0) | (refine KS.out _ _ hb4 ?_; assumption) | (refine KS.out _ _ hb3 ?_; assumption) | (refine KS.out _ _ hb2 ?_; assumption) | (refine KS.out _ _ hb1 ?_; exact KD.out _ S0) | (refine KD.out _ ?_; assumption))
    (first | (go_at_call 10; (with_reducible refine (HI2 _ ?_).out.mono ?_); (focus (first | assumption | exact KD.out _ S0)); rintro e wa ⟨rfl, hb1⟩) | (go_at_call 11; (with_reducible refine (HR _).out.mono ?_); rintro e wb ⟨rfl, hb2⟩) | (go_at_call 12; (with_reducible refine (HA2 _ ?_).out.mono ?_); (focus assumption); rintro e wc ⟨rfl, hb3⟩) | (go_at_call 13; (with_reducible refine (HB2 _ ?_).out.mono ?_); (focus assumption); rintro e wd ⟨rfl, hb4⟩))
  rename_i hSx
  have BX := BE.trans (hSx.2.2.mono (by omega))
  go_wp2
  go_ret
  exact ⟨rfl, BX⟩

theorem walk (x0 x1 : Cd) (A2 : Option Addr) (c2 : Nat) (l2 : List Cd) (w : World) (hN : Nd w) (hs : Cs w w.heap.size A2 l2) (hc : l2.length ≤ c2) : Calls Tryd.prog 3 #[cv x0.u x0.s x0.k x0.h x0.n x0.t, cv x1.u x1.s x1.k x1.h x1.n x1.t, .slice A2 l2.length c2] w (UpPost w) := by
  by_cases hl : (100 : Int) < (l2.length : Int)
  · exact long1 _ _ _ _ _ _ _ _ _ _ _ _ A2 c2 l2 w hN hl
  · by_cases ht : (1000 : Int) < (x0.t.size : Int)
    · exact long2 _ _ _ _ _ _ _ _ _ _ _ _ A2 c2 l2 w hN hl ht
    · by_cases ht' : (1000 : Int) < (x1.t.size : Int)
      · exact long3 _ _ _ _ _ _ _ _ _ _ _ _ A2 c2 l2 w hN hl ht ht'
      · exact rest (itf x0 x1) (anyI x0 l2) _ _ _ _ _ _ _ _ _ _ _ _ A2 c2 l2 w hN hl ht ht' hs (fun W h => itf_any x0 x1 W h) (fun W => ritf_any x0 x1 W) (fun W h h' => any_any x0 A2 c2 l2 W h (by omega) h') (fun W h' => rany_any x0 A2 c2 l2 W (by omega) h')

set_option maxRecDepth 100000 in
theorem lifted (os : Os) (started : os.Started) (H : Type) (enc : TypeId × Value → H) :
    ReturnsInHanded {} Tryd.checked os 3 .any (fun w args => (Rows.keysTellSpec.pre enc Tryd.prog Tryd.f3 [] false w args ∧ laidMetH Tryd.prog laid4 w) ∧ sizedMet enc Tryd.prog Tryd.f3 (OpenSpec.ofChange Rows.keysTellSpec) false w args)
      (Rows.keysTellSpec.post enc Tryd.prog Tryd.f3 false true false false) := by
  refine returnsInHanded_of_change_and (C := Tryd.checked) (X := fun w _ => laidMetH Tryd.prog laid4 w) (fun _ _ _ hh h => h.of_heap hh) own started (by kernel_rfl) Tryd.func3
    (ChangeSpec.witness_shaped (enc := enc) (C := Tryd.checked) (os := os) (X := fun w _ => laidMetH Tryd.prog laid4 w) false (World.doorLaid Tryd.prog 18 os) #[.agg #[.int .i64 0, .int .i64 0, .int .i64 0, .int .i64 0, .int .i64 0, .string ⟨#[]⟩], .agg #[.int .i64 0, .int .i64 0, .int .i64 0, .int .i64 0, .int .i64 0, .string ⟨#[]⟩], .slice none 0 0] 8 rfl (World.shaped_of_RefB (by kernel_rfl) (by kernel_rfl)) (by kernel_rfl) (by kernel_rfl) (by kernel_rfl) (door_met os _)) ?_
  intro W base args ds gs before hval0 hW _ _ hL _
  have hN := nd_of_laid hL
  have hval : ∀ (j : Nat) t v, Tryd.f3.params[j]? = some t → args[j]? = some v → Value.okWide Tryd.prog W .any base t v := hval0
  have hW' := hW
  obtain ⟨p, q, hA0, hV, rfl, hfz, hnd⟩ := hW
  have hA : DataW.TrodAll enc Tryd.prog W 0 (fun _ => true) true Tryd.f3.params.toList args.toList ds p := hA0
  rw [Tryd.params3] at hA hval
  obtain ⟨v0, vs0, d0, ds0, p0, q0, hargs, rfl, rfl, h0, r0⟩ := trodAll_cons hA
  obtain ⟨v1, vs1, d1, ds1, p1, q1, rfl, rfl, rfl, h1, r1⟩ := trodAll_cons r0
  obtain ⟨v2, vs2, d2, ds2, p2, q2, rfl, rfl, rfl, h2, r2⟩ := trodAll_cons r1
  obtain ⟨rfl, rfl, rfl⟩ := trodAll_nil r2
  obtain rfl : args = #[v0, v1, v2] := by cases args; simp_all
  obtain ⟨rfl, rfl⟩ := trodVars_none hV
  have k0' := h0
  have lt0 : ∀ x ∈ p0, x.block < W.heap.size := by obtain ⟨m, hm⟩ := k0'; exact DataW.trod_lt m _ _ _ hm
  obtain ⟨x0, rfl⟩ := open_cmd (hval 0 23 v0 rfl rfl) h0
  have k1' := h1
  have lt1 : ∀ x ∈ p1, x.block < W.heap.size := by obtain ⟨m, hm⟩ := k1'; exact DataW.trod_lt m _ _ _ hm
  obtain ⟨x1, rfl⟩ := open_cmd (hval 1 23 v1 rfl rfl) h1
  have k2' := h2
  have lt2 : ∀ x ∈ p2, x.block < W.heap.size := by obtain ⟨m, hm⟩ := k2'; exact DataW.trod_lt m _ _ _ hm
  obtain ⟨A2, c2, l2, rfl, s2', m2⟩ := open_cmds (hval 2 24 v2 rfl rfl) h2
  clear hA0 hval0
  refine (walk x0 x1 A2 c2 l2 W hN   s2' m2).mono fun e W' ⟨he, bel⟩ => ?_
  subst he
  exact ⟨_, rfl, _, _, _, [], _, [], hW', trodAll_mk1 (shut_bool Tryd.underlying4 _), (trodAll_cons_mk (Below.trod laidOut (by kernel_rfl) (of_decide_eq_true (by kernel_rfl)) k0' bel lt0) (trodAll_cons_mk (Below.trod laidOut (by kernel_rfl) (of_decide_eq_true (by kernel_rfl)) k1' bel lt1) (trodAll_cons_mk (Below.trod laidOut (by kernel_rfl) (of_decide_eq_true (by kernel_rfl)) k2' bel lt2) trodAll_mk0))), rfl, bel.frame _, fun h => by cases h⟩

theorem over : Rows.KeysTellSaid :=
  OpenClaim.holds_of_wide 3 Tryd.f3 rfl rfl rfl rfl rfl rfl rfl ⟨rfl, rfl, rfl, rfl, rfl⟩ rfl rfl rfl rfl rfl (by kernel_rfl) Tryd.func3 (by kernel_rfl)
    (of_decide_eq_true (by kernel_rfl)) (by unfold Func.isWrapper; first | (rw [if_pos (by decide +kernel)]; kernel_rfl) | (rw [if_neg (by decide +kernel)]; exact ⟨rfl, rfl⟩))
    (fun os started H enc _ => lifted os started H enc)

theorem proved : Rows.KeysTellCardSaid :=
  Claim7.holds_tied_plain_at .later [] [.data] true (true, "bf996c1659db8f8bd19cd74e829fb44e501c00b08f30b8180ae3fe74fe87094c") false
    over (fun _ h => by cases h) (by kernel_rfl) (fun _ h => by cases h) keysTell_row_tie rfl ⟨rfl, rfl⟩ (by kernel_rfl) rfl
    (fun f fn hf hfn => by
      obtain rfl : f = 3 := Option.some.inj ((show Tryd.prog.funcNamed "colloquy/colloquylaw05.KeysTell" = some 3 by kernel_rfl).symm.trans hf) |>.symm
      obtain rfl : fn = Tryd.f3 := (Option.some.inj (Tryd.func3.symm.trans hfn)).symm
      exact ⟨by kernel_rfl, fun j t ht => by
        rw [Tryd.params3] at ht
        have hm : t ∈ [23, 23, 24] := by simpa using Array.mem_of_getElem? ht
        have hall : ([23, 23, 24].all fun u => !Tryd.prog.wantsStandIn u) = true := by kernel_rfl
        exact (show Tryd.prog.wantsStandIn t = false by simpa using List.all_eq_true.1 hall t hm)⟩)
    (by kernel_rfl)
#print axioms proved
end Go.Proofs.YtdpjkbhofebdiaaDoor.keysTell
