/-
  The walk of keys.Interfere: it answers what 'itf' says. Conditions: that the table of what kinds need reads as its initialiser lays it.
-/
import Derived.Test.YtmeklhlojogdnaaDoorOf
namespace Go.Proofs.YtmeklhlojogdnaaDoor
open Go.RowKit
set_option linter.unusedVariables false

/-- Do two commands interfere? -/
def itf (x y : Cd) : Bool := sm (kl x) (kl y)

/-- What a region keeps that loads of two boxes. -/
theorem keep2 {w0 v v' : World} {B B' D : Nat} {u s k h n u' s' k' h' n' : Int} {t t' : ByteArray} (hB : B < D) (hB' : B' < D) (hS : Cb v B u s k h n t ∧ Cb v B' u' s' k' h' n' t' ∧ Below D w0 v) (hb : Below D v v') : Cb v' B u s k h n t ∧ Cb v' B' u' s' k' h' n' t' ∧ Below D w0 v' := ⟨hS.1.on hb hB, hS.2.1.on hb hB', hS.2.2.trans hb⟩

set_option maxHeartbeats 1000000 in
theorem itf_any (x y : Cd) (w : World) (hN : Nd w) : Calls Tryd.prog 18 #[cv x.u x.s x.k x.h x.n x.t, cv y.u y.s y.k y.h y.n y.t] w (BoolPost w (itf x y)) := by
  have HO1 : ∀ W, Nd W → Hid (Calls Tryd.prog 31 #[cv x.u x.s x.k x.h x.n x.t] W (KsPost W (kl x))) := fun W h => of_any x W h
  have HO2 : ∀ W, Nd W → Hid (Calls Tryd.prog 31 #[cv y.u y.s y.k y.h y.n y.t] W (KsPost W (kl y))) := fun W h => of_any y W h
  have HX : ∀ W A1 c1 A2 c2, Ks W W.heap.size A1 (kl x) → Ks W W.heap.size A2 (kl y) → Hid (Calls Tryd.prog 33 #[.slice A1 (kl x).length c1, .slice A2 (kl y).length c2] W (BoolPost W (itf x y))) := fun W A1 c1 A2 c2 h1 h2 => some_any A1 A2 c1 c2 _ _ W (kl_len x) (kl_len y) h1 h2
  generalize itf x y = r at *
  generalize kl x = lx at *
  generalize kl y = ly at *
  obtain ⟨u, s, k, h, n, t⟩ := x
  obtain ⟨u', s', k', h', n', t'⟩ := y
  go_enter Tryd.func18, Tryd.ntmps18
  go_wp2_with fail
  have BW : Below w.heap.size w ((w.alloc (.cells #[.int .i64 u, .int .i64 s, .int .i64 k, .int .i64 h, .int .i64 n, .string t] 24)).alloc (.cells #[.int .i64 u', .int .i64 s', .int .i64 k', .int .i64 h', .int .i64 n', .string t'] 24)) := ((Below.refl _ _).alloc (Nat.le_refl _) _).alloc (by simp) _
  have Z0 : ((w.alloc (.cells #[.int .i64 u, .int .i64 s, .int .i64 k, .int .i64 h, .int .i64 n, .string t] 24)).alloc (.cells #[.int .i64 u', .int .i64 s', .int .i64 k', .int .i64 h', .int .i64 n', .string t'] 24)).heap.size = w.heap.size + 1 + 1 := by simp
  have C0 : Cb ((w.alloc (.cells #[.int .i64 u, .int .i64 s, .int .i64 k, .int .i64 h, .int .i64 n, .string t] 24)).alloc (.cells #[.int .i64 u', .int .i64 s', .int .i64 k', .int .i64 h', .int .i64 n', .string t'] 24)) w.heap.size u s k h n t := (cb_new w u s k h n t).on ((Below.refl _ _).alloc (Nat.le_refl _) _) (by simp)
  have D0 : Cb ((w.alloc (.cells #[.int .i64 u, .int .i64 s, .int .i64 k, .int .i64 h, .int .i64 n, .string t] 24)).alloc (.cells #[.int .i64 u', .int .i64 s', .int .i64 k', .int .i64 h', .int .i64 n', .string t'] 24)) (w.heap.size + 1) u' s' k' h' n' t' := by
    have := cb_new (w.alloc (.cells #[.int .i64 u, .int .i64 s, .int .i64 k, .int .i64 h, .int .i64 n, .string t] 24)) u' s' k' h' n' t'
    rw [show (w.alloc (.cells #[.int .i64 u, .int .i64 s, .int .i64 k, .int .i64 h, .int .i64 n, .string t] 24)).heap.size = w.heap.size + 1 by simp] at this
    exact this
  have N0 := hN.on BW
  generalize ((w.alloc (.cells #[.int .i64 u, .int .i64 s, .int .i64 k, .int .i64 h, .int .i64 n, .string t] 24)).alloc (.cells #[.int .i64 u', .int .i64 s', .int .i64 k', .int .i64 h', .int .i64 n', .string t'] 24)) = W0 at *
  have hz : w.heap.size < W0.heap.size := by omega
  have hz' : w.heap.size + 1 < W0.heap.size := by omega
  have S0 : Cb W0 w.heap.size u s k h n t ∧ Cb W0 (w.heap.size + 1) u' s' k' h' n' t' ∧ Below W0.heap.size W0 W0 := ⟨C0, D0, Below.refl _ _⟩
  have KD : Hid (∀ v, (Cb v w.heap.size u s k h n t ∧ Cb v (w.heap.size + 1) u' s' k' h' n' t' ∧ Below W0.heap.size W0 v) → (Cb v.drew w.heap.size u s k h n t ∧ Cb v.drew (w.heap.size + 1) u' s' k' h' n' t' ∧ Below W0.heap.size W0 v.drew)) := fun v hS => keep2 hz hz' hS ((Below.refl _ _).drew)
  have KS : Hid (∀ v v', Below v.heap.size v v' → (Cb v w.heap.size u s k h n t ∧ Cb v (w.heap.size + 1) u' s' k' h' n' t' ∧ Below W0.heap.size W0 v) → (Cb v' w.heap.size u s k h n t ∧ Cb v' (w.heap.size + 1) u' s' k' h' n' t' ∧ Below W0.heap.size W0 v')) := fun v v' hb hS => keep2 hz hz' hS (hb.mono hS.2.2.size)
  have HP1 : ∀ W, (Cb W w.heap.size u s k h n t ∧ Cb W (w.heap.size + 1) u' s' k' h' n' t' ∧ Below W0.heap.size W0 W) → Hid (Calls Tryd.prog 31 #[cv u s k h n t] W (KsPost W lx)) := fun W hS => HO1 W (N0.on hS.2.2)
  have HP2 : ∀ W, (Cb W w.heap.size u s k h n t ∧ Cb W (w.heap.size + 1) u' s' k' h' n' t' ∧ Below W0.heap.size W0 W) → Hid (Calls Tryd.prog 31 #[cv u' s' k' h' n' t'] W (KsPost W ly)) := fun W hS => HO2 W (N0.on hS.2.2)
  clear HO1 HO2 N0 hN
  obtain ⟨p0, p1, p2, p3, p4, p5⟩ := C0
  obtain ⟨r0, r1, r2, r3, r4, r5⟩ := D0
  go_region_held3 (fun v => (v.cell? ⟨w.heap.size, 0, none⟩ = some (.int .i64 u) ∧ v.cell? ⟨w.heap.size, 1, none⟩ = some (.int .i64 s) ∧ v.cell? ⟨w.heap.size, 2, none⟩ = some (.int .i64 k) ∧ v.cell? ⟨w.heap.size, 3, none⟩ = some (.int .i64 h) ∧ v.cell? ⟨w.heap.size, 4, none⟩ = some (.int .i64 n) ∧ v.cell? ⟨w.heap.size, 5, none⟩ = some (.string t)) ∧ (v.cell? ⟨w.heap.size + 1, 0, none⟩ = some (.int .i64 u') ∧ v.cell? ⟨w.heap.size + 1, 1, none⟩ = some (.int .i64 s') ∧ v.cell? ⟨w.heap.size + 1, 2, none⟩ = some (.int .i64 k') ∧ v.cell? ⟨w.heap.size + 1, 3, none⟩ = some (.int .i64 h') ∧ v.cell? ⟨w.heap.size + 1, 4, none⟩ = some (.int .i64 n') ∧ v.cell? ⟨w.heap.size + 1, 5, none⟩ = some (.string t')) ∧ Below W0.heap.size W0 v)
    (first | (exact S0) | (exact KD.out _ S0) | (refine KD.out _ ?_; assumption) | (refine KS.out _ _ hb3 ?_; assumption) | (refine KS.out _ _ hb2 ?_; assumption) | (refine KS.out _ _ hb1 ?_; exact KD.out _ S0))
    (first | (go_at_call 31; (with_reducible refine (HP1 _ ?_).out.mono ?_); (focus (first | assumption | exact KD.out _ S0)); rintro e wa ⟨A1, c1, rfl, ks1, hb1⟩) | (go_at_call 31; (with_reducible refine (HP2 _ ?_).out.mono ?_); (focus (first | assumption | exact KD.out _ S0)); rintro e wb ⟨A2, c2, rfl, ks2, hb2⟩) | (go_at_call 33; (with_reducible refine (HX _ _ _ _ _ ((ks1.below hb2 (Nat.le_refl _)).mono hb2.size) ks2).out.mono ?_); rintro e wc ⟨rfl, hb3⟩))
  rename_i hSx
  have BX := BW.trans (hSx.2.2.mono (by omega))
  go_wp2
  go_ret
  exact ⟨rfl, BX⟩

end Go.Proofs.YtmeklhlojogdnaaDoor
