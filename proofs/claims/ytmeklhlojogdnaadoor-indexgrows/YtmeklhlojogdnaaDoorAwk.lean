/-
  The walk of the statements' own first step ('awake'). Conditions: the table of what kinds need reads as its initialiser lays it.
-/
import Derived.Test.YtmeklhlojogdnaaDoorOfp
import Derived.Test.YtmeklhlojogdnaaDoorPtf
import Derived.Test.YtmeklhlojogdnaaDoorOpen
namespace Go.Proofs.YtmeklhlojogdnaaDoor
open Go.RowKit
set_option linter.unusedVariables false

/-- The chapter's example. -/
def kx : Kn := ⟨(2, 1), ⟨1, 1, 4, 3, 0, ⟨#[120]⟩⟩, 4⟩
def fx : Cd := ⟨2, 1, 7, 3, 1, ⟨#[]⟩⟩
theorem ex_itf : itf kx.c fx = true := by decide
theorem ex_pt : pt (am 3) [] kx = [kx] := by rw [pt_yes (by decide)]; rfl
theorem ex_at : IsAt (Pq (am 3) [kx] fx (1, 1)) 3 5 [0, 1, 0] :=
  ((is_none 3).step (2, 1) 4 (by decide) (by decide) (by decide)).congr fun i q => ⟨fun h => by
    rcases h with h | ⟨rfl, rfl⟩
    · exact h.elim
    · exact ⟨kx, by simp, by decide, by decide, ex_itf, rfl, rfl⟩, fun ⟨k, hk, _, _, _, h4, h5⟩ => by
    simp at hk; subst hk; exact .inr ⟨h4.symm, h5.symm⟩⟩

/-- The call gave the example's attribute. -/
def ExPost (w : World) (e : Ending) (w' : World) : Prop := ∃ g, e = .returned (.agg #[.int .i64 5, .slice (some ⟨g, 0, none⟩) 3 3]) ∧ At.Rx w' g [0, 1, 0] ∧ w.heap.size ≤ g ∧ Below w.heap.size w w'
theorem ex_of {w : World} {e : Ending} {w' : World} (h : AtP w (Pq (am 3) [kx] fx (1, 1)) 3 e w') : ExPost w e w' := by
  obtain ⟨s, ds, g, he, hr, hg, hb, hi⟩ := h
  obtain ⟨rfl, rfl⟩ := hi.uniq ex_at (fun _ _ => Iff.rfl)
  exact ⟨g, he, hr, hg, hb⟩

set_option maxHeartbeats 2000000 in
theorem awake_any (w : World) (hN : Nd w) : Calls Tryd.prog 9 #[] w (UpPost w) := by
  have H10 : ∀ W A c, Nd W → Ns W W.heap.size A [kx] → Hid (Calls Tryd.prog 10 #[.slice A 1 c, (cv 2 1 7 3 1 ⟨#[]⟩), (.agg #[.int .i64 1, .int .i64 1]), .int .i64 3] W (ExPost W)) := fun W A c h1 h2 => (of_prog 3 3 2 1 7 3 1 1 1 ⟨#[]⟩ A c [kx] W h1 (by decide) (by decide) (by decide) h2 (by intro k hk; simp at hk; subst hk; decide)).mono fun e w' h => ex_of h
  have H13 : ∀ W, Hid (Calls Tryd.prog 13 #[.int .i64 3] W fun e w' => e = .returned (.pointer (some ⟨W.heap.size, 0, none⟩)) ∧ w' = W.alloc (.cells #[.int .i64 3, .map none, .map none] 55)) := fun W => new_any 3 W
  have H14 : ∀ W X, Nd W → Ix W X 3 [] (fun r => r = X) → 1 ≤ X → Hid (Calls Tryd.prog 14 #[.pointer (some ⟨X, 0, none⟩), (.agg #[.int .i64 2, .int .i64 1, .int .i64 1, .int .i64 1, .int .i64 4, .int .i64 3, .int .i64 0, .string ⟨#[120]⟩, .int .i64 4])] W (PtPost W X 3 [kx] (fun r => r = X))) := fun W X h1 h2 h3 => by
    have := put_any X 3 [] (fun r => r = X) kx W h1 h2 (fun r h => by omega) (by decide)
    rw [ex_pt] at this
    exact this
  have H16 : ∀ W X O, Nd W → Ix W X 3 [kx] O → Hid (Calls Tryd.prog 16 #[.pointer (some ⟨X, 0, none⟩), (cv 2 1 7 3 1 ⟨#[]⟩), (.agg #[.int .i64 1, .int .i64 1])] W (ExPost W)) := fun W X O h1 h2 => (attr_any X 3 3 [kx] O fx (1, 1) W h1 h2 (by decide) (by decide)).mono fun e w' h => ex_of h
  have H17 : ∀ W X O, Ix W X 3 [kx] O → Hid (Calls Tryd.prog 17 #[.pointer (some ⟨X, 0, none⟩)] W fun e w' => e = .returned (.int .i64 1) ∧ w' = W) := fun W X O h => len_any X 3 [kx] O W h
  have B4 : Below w.heap.size w ((((w.alloc (.cells #[.int .i64 1, .int .i64 1, .int .i64 4, .int .i64 3, .int .i64 0, .string ⟨#[120]⟩] 24)).alloc (.cells #[.int .i64 2, .int .i64 1, .int .i64 7, .int .i64 3, .int .i64 1, .string ⟨#[]⟩] 24)).alloc (.cells #[.int .i64 2, .int .i64 1, .int .i64 1, .int .i64 1, .int .i64 4, .int .i64 3, .int .i64 0, .string ⟨#[120]⟩, .int .i64 4] 29)).alloc (.cells #[.int .i64 2, .int .i64 1, .int .i64 1, .int .i64 1, .int .i64 4, .int .i64 3, .int .i64 0, .string ⟨#[120]⟩, .int .i64 4] 29)) := ((((Below.refl _ _).alloc (Nat.le_refl _) _).alloc (by simp) _).alloc (by simp; omega) _).alloc (by simp; omega) _
  have Z4 : ((((w.alloc (.cells #[.int .i64 1, .int .i64 1, .int .i64 4, .int .i64 3, .int .i64 0, .string ⟨#[120]⟩] 24)).alloc (.cells #[.int .i64 2, .int .i64 1, .int .i64 7, .int .i64 3, .int .i64 1, .string ⟨#[]⟩] 24)).alloc (.cells #[.int .i64 2, .int .i64 1, .int .i64 1, .int .i64 1, .int .i64 4, .int .i64 3, .int .i64 0, .string ⟨#[120]⟩, .int .i64 4] 29)).alloc (.cells #[.int .i64 2, .int .i64 1, .int .i64 1, .int .i64 1, .int .i64 4, .int .i64 3, .int .i64 0, .string ⟨#[120]⟩, .int .i64 4] 29)).heap.size = w.heap.size + 1 + 1 + 1 + 1 := by simp
  have F4 : Cb ((((w.alloc (.cells #[.int .i64 1, .int .i64 1, .int .i64 4, .int .i64 3, .int .i64 0, .string ⟨#[120]⟩] 24)).alloc (.cells #[.int .i64 2, .int .i64 1, .int .i64 7, .int .i64 3, .int .i64 1, .string ⟨#[]⟩] 24)).alloc (.cells #[.int .i64 2, .int .i64 1, .int .i64 1, .int .i64 1, .int .i64 4, .int .i64 3, .int .i64 0, .string ⟨#[120]⟩, .int .i64 4] 29)).alloc (.cells #[.int .i64 2, .int .i64 1, .int .i64 1, .int .i64 1, .int .i64 4, .int .i64 3, .int .i64 0, .string ⟨#[120]⟩, .int .i64 4] 29)) (w.heap.size + 1) 2 1 7 3 1 ⟨#[]⟩ := by
    have h1 := cb_new (w.alloc (.cells #[.int .i64 1, .int .i64 1, .int .i64 4, .int .i64 3, .int .i64 0, .string ⟨#[120]⟩] 24)) 2 1 7 3 1 ⟨#[]⟩
    rw [show (w.alloc (.cells #[.int .i64 1, .int .i64 1, .int .i64 4, .int .i64 3, .int .i64 0, .string ⟨#[120]⟩] 24)).heap.size = w.heap.size + 1 by simp] at h1
    exact (h1.on ((Below.refl _ _).alloc (Nat.le_refl _) _) (by simp)).on ((Below.refl _ _).alloc (Nat.le_refl _) _) (by simp)
  have K4 : Nb ((((w.alloc (.cells #[.int .i64 1, .int .i64 1, .int .i64 4, .int .i64 3, .int .i64 0, .string ⟨#[120]⟩] 24)).alloc (.cells #[.int .i64 2, .int .i64 1, .int .i64 7, .int .i64 3, .int .i64 1, .string ⟨#[]⟩] 24)).alloc (.cells #[.int .i64 2, .int .i64 1, .int .i64 1, .int .i64 1, .int .i64 4, .int .i64 3, .int .i64 0, .string ⟨#[120]⟩, .int .i64 4] 29)).alloc (.cells #[.int .i64 2, .int .i64 1, .int .i64 1, .int .i64 1, .int .i64 4, .int .i64 3, .int .i64 0, .string ⟨#[120]⟩, .int .i64 4] 29)) (w.heap.size + 1 + 1) kx := by
    have h1 := nb_new ((w.alloc (.cells #[.int .i64 1, .int .i64 1, .int .i64 4, .int .i64 3, .int .i64 0, .string ⟨#[120]⟩] 24)).alloc (.cells #[.int .i64 2, .int .i64 1, .int .i64 7, .int .i64 3, .int .i64 1, .string ⟨#[]⟩] 24)) kx
    rw [show ((w.alloc (.cells #[.int .i64 1, .int .i64 1, .int .i64 4, .int .i64 3, .int .i64 0, .string ⟨#[120]⟩] 24)).alloc (.cells #[.int .i64 2, .int .i64 1, .int .i64 7, .int .i64 3, .int .i64 1, .string ⟨#[]⟩] 24)).heap.size = w.heap.size + 1 + 1 by simp] at h1
    exact h1.on ((Below.refl _ _).alloc (Nat.le_refl _) _) (by simp)
  have S4 : Ns ((((w.alloc (.cells #[.int .i64 1, .int .i64 1, .int .i64 4, .int .i64 3, .int .i64 0, .string ⟨#[120]⟩] 24)).alloc (.cells #[.int .i64 2, .int .i64 1, .int .i64 7, .int .i64 3, .int .i64 1, .string ⟨#[]⟩] 24)).alloc (.cells #[.int .i64 2, .int .i64 1, .int .i64 1, .int .i64 1, .int .i64 4, .int .i64 3, .int .i64 0, .string ⟨#[120]⟩, .int .i64 4] 29)).alloc (.cells #[.int .i64 2, .int .i64 1, .int .i64 1, .int .i64 1, .int .i64 4, .int .i64 3, .int .i64 0, .string ⟨#[120]⟩, .int .i64 4] 29)) ((((w.alloc (.cells #[.int .i64 1, .int .i64 1, .int .i64 4, .int .i64 3, .int .i64 0, .string ⟨#[120]⟩] 24)).alloc (.cells #[.int .i64 2, .int .i64 1, .int .i64 7, .int .i64 3, .int .i64 1, .string ⟨#[]⟩] 24)).alloc (.cells #[.int .i64 2, .int .i64 1, .int .i64 1, .int .i64 1, .int .i64 4, .int .i64 3, .int .i64 0, .string ⟨#[120]⟩, .int .i64 4] 29)).alloc (.cells #[.int .i64 2, .int .i64 1, .int .i64 1, .int .i64 1, .int .i64 4, .int .i64 3, .int .i64 0, .string ⟨#[120]⟩, .int .i64 4] 29)).heap.size (some ⟨w.heap.size + 1 + 1 + 1, 0, none⟩) [kx] := by
    refine .inr ⟨_, 0, rfl, by rw [Z4]; omega, fun j x hx => ?_⟩
    match j, hx with
    | 0, hx =>
      simp at hx; subst hx
      have h1 := nb_new (((w.alloc (.cells #[.int .i64 1, .int .i64 1, .int .i64 4, .int .i64 3, .int .i64 0, .string ⟨#[120]⟩] 24)).alloc (.cells #[.int .i64 2, .int .i64 1, .int .i64 7, .int .i64 3, .int .i64 1, .string ⟨#[]⟩] 24)).alloc (.cells #[.int .i64 2, .int .i64 1, .int .i64 1, .int .i64 1, .int .i64 4, .int .i64 3, .int .i64 0, .string ⟨#[120]⟩, .int .i64 4] 29)) kx
      rw [show (((w.alloc (.cells #[.int .i64 1, .int .i64 1, .int .i64 4, .int .i64 3, .int .i64 0, .string ⟨#[120]⟩] 24)).alloc (.cells #[.int .i64 2, .int .i64 1, .int .i64 7, .int .i64 3, .int .i64 1, .string ⟨#[]⟩] 24)).alloc (.cells #[.int .i64 2, .int .i64 1, .int .i64 1, .int .i64 1, .int .i64 4, .int .i64 3, .int .i64 0, .string ⟨#[120]⟩, .int .i64 4] 29)).heap.size = w.heap.size + 1 + 1 + 1 by simp] at h1
      exact h1
    | j + 1, hx => simp at hx
  have N4 := hN.on B4
  go_enter Tryd.func9, Tryd.ntmps9
  go_wp2_with fail
  generalize ((((w.alloc (.cells #[.int .i64 1, .int .i64 1, .int .i64 4, .int .i64 3, .int .i64 0, .string ⟨#[120]⟩] 24)).alloc (.cells #[.int .i64 2, .int .i64 1, .int .i64 7, .int .i64 3, .int .i64 1, .string ⟨#[]⟩] 24)).alloc (.cells #[.int .i64 2, .int .i64 1, .int .i64 1, .int .i64 1, .int .i64 4, .int .i64 3, .int .i64 0, .string ⟨#[120]⟩, .int .i64 4] 29)).alloc (.cells #[.int .i64 2, .int .i64 1, .int .i64 1, .int .i64 1, .int .i64 4, .int .i64 3, .int .i64 0, .string ⟨#[120]⟩, .int .i64 4] 29)) = W4 at *
  refine (H10 _ _ _ N4 S4).out.mono ?_
  rintro e W5 ⟨ga, rfl, R5, hga, B5⟩
  have z5 := B5.size
  have N5 := N4.on B5
  have BA : Below W5.heap.size W5 (W5.alloc (.cells #[.int .i64 5, .slice (some ⟨ga, 0, none⟩) 3 3] 32)) := (Below.refl _ _).alloc (Nat.le_refl _) _
  have A6 := At.ax_new W5 5 (some ⟨ga, 0, none⟩) 3 3
  have Z6 : (W5.alloc (.cells #[.int .i64 5, .slice (some ⟨ga, 0, none⟩) 3 3] 32)).heap.size = W5.heap.size + 1 := by simp
  have F6 := (F4.on B5 (by omega)).on BA (by omega)
  have K6 := (K4.on B5 (by omega)).on BA (by omega)
  have R6 := R5.old (.cells #[.int .i64 5, .slice (some ⟨ga, 0, none⟩) 3 3] 32)
  have N6 := N5.on BA
  have B6 := B4.trans ((B5.trans (BA.mono z5)).mono (by omega))
  have hgl := R5.lt
  clear F4 K4 S4 N4 B4 R5 N5 B5 BA H10
  go_wp2_with fail
  generalize (W5.alloc (.cells #[.int .i64 5, .slice (some ⟨ga, 0, none⟩) 3 3] 32)) = W6 at *
  generalize W5.heap.size = pa at *
  refine (H13 _).out.mono ?_
  rintro e W7 ⟨rfl, rfl⟩
  have B7 : Below W6.heap.size W6 (W6.alloc (.cells #[.int .i64 3, .map none, .map none] 55)) := (Below.refl _ _).alloc (Nat.le_refl _) _
  have X7 := ix_new W6 3
  have F7 := F6.on B7 (by omega)
  have K7 := K6.on B7 (by omega)
  have A7 := A6.on B7 (by omega)
  have R7 : At.Rx (W6.alloc (.cells #[.int .i64 3, .map none, .map none] 55)) ga [0, 1, 0] := R6.old _
  have N7 := N6.on B7
  have BB7 := B6.trans (B7.mono (by omega))
  have Z7 : W6.heap.size < (W6.alloc (.cells #[.int .i64 3, .map none, .map none] 55)).heap.size := by simp
  obtain ⟨k0, k1, k2, k3, k4, k5, k6, k7, k8⟩ := id K7
  clear F6 K6 A6 R6 N6 B6 B7
  have hX1 : 1 ≤ W6.heap.size := by omega
  generalize (W6.alloc (.cells #[.int .i64 3, .map none, .map none] 55)) = W7 at *
  generalize W6.heap.size = X at *
  have hxp : pa < X := by omega
  clear Z6
  unfold kx at k0 k1 k2 k3 k4 k5 k6 k7 k8
  go_wp2_with fail
  clear k0 k1 k2 k3 k4 k5 k6 k7 k8
  refine (H14 _ _ N7 X7 hX1).out.mono ?_
  rintro e W8 ⟨rfl, O8, X8, o8, hs8⟩
  have OB : Below X W7 W8 := o8.below (fun r h => by omega) (by omega)
  have F8 := F7.on OB (by omega)
  have A8 := A7.on OB (by omega)
  have R8 : At.Rx W8 ga [0, 1, 0] := (OB.block ga (by omega)).trans R7
  have N8 := N7.below OB (by omega)
  have BB8 := BB7.trans (OB.mono (by omega))
  have z8 := OB.size
  clear F7 A7 R7 N7 BB7 OB o8 X7 K7 H14
  obtain ⟨f0, f1, f2, f3, f4, f5⟩ := id F8
  go_wp2_with fail
  clear f0 f1 f2 f3 f4 f5
  refine (H16 _ _ _ N8 X8).out.mono ?_
  rintro e W9 ⟨gb, rfl, R9, hgb, B9⟩
  have z9 := B9.size
  have X9 := X8.on B9
  have A9 := A8.on B9 (by omega)
  have RA9 : At.Rx W9 ga [0, 1, 0] := (B9.block ga (by omega)).trans R8
  have BB9 := BB8.trans (B9.mono BB8.size)
  have BC : Below W9.heap.size W9 (W9.alloc (.cells #[.int .i64 5, .slice (some ⟨gb, 0, none⟩) 3 3] 32)) := (Below.refl _ _).alloc (Nat.le_refl _) _
  have X10 := X9.on BC
  have A10 := A9.on BC (by omega)
  have RA10 := RA9.old (.cells #[.int .i64 5, .slice (some ⟨gb, 0, none⟩) 3 3] 32)
  have P10 := At.ax_new W9 5 (some ⟨gb, 0, none⟩) 3 3
  have BB10 := BB9.trans (BC.mono BB9.size)
  obtain ⟨a0, a1⟩ := A10.rb
  obtain ⟨p0, p1⟩ := P10.rb
  have r1 := RA10.cell (j := 1) (by decide)
  clear X9 A9 RA9 BB9 BC X8 A8 R8 N8 F8 R9 B9 H16
  go_wp2_with fail
  refine (H17 _ _ _ X10).out.mono ?_
  rintro e W11 ⟨rfl, rfl⟩
  go_wp2
  go_ret
  exact ⟨rfl, BB10⟩

end Go.Proofs.YtmeklhlojogdnaaDoor
