/-
  The walks of adler.Sum and of the document's Sum: both answer what 'sm' says. Conditions: the bytes are bytes, and at most 10000.
-/
import Derived.Test.YtaghbokgcpkjjaaReck
import Derived.OpenShut
namespace Go.Proofs.Ytaghbokgcpkjjaa
open Go.RowKit

def IntPost (w : World) (k : IntKind) (n : Int) (e : Ending) (w' : World) : Prop := e = .returned (.int k n) ∧ w = w'

theorem half1 (bl c : Nat) (a : Int) (V : World) (h0 : V.cell? ⟨bl, 0, none⟩ = some (.int .i64 a)) (a0 : -4611686018427387904 ≤ a) (a1 : a ≤ 4611686018427387904) :
    Calls Try.prog 29 #[.slice (some ⟨bl, 0, none⟩) 1 c] V fun e w' => e = .returned (.int .i64 (a % 65521)) ∧ V = w' :=
  (half_any _ c [a] V (bl + 1) (by simp) (.inr ⟨bl, 0, rfl, by omega, fun j x hx => by
    match j, hx with
    | 0, hx => simp at hx; subst hx; simpa using h0⟩) (fun x hx => by simp at hx; subst hx; omega)).mono fun _ _ ⟨he, hw⟩ => ⟨by rw [he]; simp [tot], hw⟩

theorem half2 (bl c : Nat) (a b : Int) (V : World) (h0 : V.cell? ⟨bl, 0, none⟩ = some (.int .i64 a)) (h1 : V.cell? ⟨bl, 1, none⟩ = some (.int .i64 b))
    (a0 : -4611686018427387904 ≤ a) (a1 : a ≤ 4611686018427387904) (b0 : -4611686018427387904 ≤ b) (b1 : b ≤ 4611686018427387904) :
    Calls Try.prog 29 #[.slice (some ⟨bl, 0, none⟩) 2 c] V fun e w' => e = .returned (.int .i64 ((a + b) % 65521)) ∧ V = w' :=
  (half_any _ c [a, b] V (bl + 1) (by simp) (.inr ⟨bl, 0, rfl, by omega, fun j x hx => by
    match j, hx with
    | 0, hx => simp at hx; subst hx; simpa using h0
    | 1, hx => simp at hx; subst hx; simpa using h1⟩) (fun x hx => by simp at hx; rcases hx with rfl | rfl <;> omega)).mono fun _ _ ⟨he, hw⟩ => ⟨by rw [he]; simp [tot], hw⟩

theorem half3 (bl c : Nat) (a b d : Int) (V : World) (h0 : V.cell? ⟨bl, 0, none⟩ = some (.int .i64 a)) (h1 : V.cell? ⟨bl, 1, none⟩ = some (.int .i64 b)) (h2 : V.cell? ⟨bl, 2, none⟩ = some (.int .i64 d))
    (a0 : -4611686018427387904 ≤ a) (a1 : a ≤ 4611686018427387904) (b0 : -4611686018427387904 ≤ b) (b1 : b ≤ 4611686018427387904) (d0 : -4611686018427387904 ≤ d) (d1 : d ≤ 4611686018427387904) :
    Calls Try.prog 29 #[.slice (some ⟨bl, 0, none⟩) 3 c] V fun e w' => e = .returned (.int .i64 ((a + b + d) % 65521)) ∧ V = w' :=
  (half_any _ c [a, b, d] V (bl + 1) (by simp) (.inr ⟨bl, 0, rfl, by omega, fun j x hx => by
    match j, hx with
    | 0, hx => simp at hx; subst hx; simpa using h0
    | 1, hx => simp at hx; subst hx; simpa using h1
    | 2, hx => simp at hx; subst hx; simpa using h2⟩) (fun x hx => by simp at hx; rcases hx with rfl | rfl | rfl <;> omega)).mono fun _ _ ⟨he, hw⟩ => ⟨by rw [he]; simp [tot, Int.add_assoc], hw⟩

/-- What the low part is behind the first k bytes, and the high one. -/
def lo (xs : List Int) : Int := (1 + tot xs) % 65521
def hi (xs : List Int) : Int := ((xs.length : Int) + wt xs) % 65521
theorem lo_take {xs : List Int} {k : Nat} (h : k < xs.length) : lo (xs.take (k + 1)) = (lo (xs.take k) + xs.getD k 0) % 65521 := by
  have e : xs.getD k 0 = xs[k] := by simp [List.getD, h]
  rw [e, List.take_succ_eq_append_getElem h]; exact lo_snoc _ _
theorem hi_take {xs : List Int} {k : Nat} (h : k < xs.length) : hi (xs.take (k + 1)) = (hi (xs.take k) + lo (xs.take (k + 1))) % 65521 := by
  rw [List.take_succ_eq_append_getElem h]; exact hi_snoc _ _
theorem sm_parts (xs : List Int) : sm xs = hi xs * 65536 + lo xs := rfl

def SumPost (w : World) (xs : List Int) (e : Ending) (w' : World) : Prop := e = .returned (.int .u32 (sm xs)) ∧ Below w.heap.size w w'
def RsumRel (xs : List Int) (i x y : Value) : Prop := ∃ k : Nat, k ≤ xs.length ∧ i = .int .i64 (k : Int) ∧ x = .int .i64 (lo (xs.take k)) ∧ y = .int .i64 (hi (xs.take k))

theorem rsum_any (A : Option Addr) (c : Nat) (xs : List Int) (w : World) (B : Nat) (hl : xs.length ≤ 10000) (hs : Sl w B .u8 A xs) (hx : ∀ x ∈ xs, 0 ≤ x ∧ x ≤ 255) :
    Calls Try.prog 22 #[.slice A xs.length c] w (IntPost w .u32 (sm xs)) := by
  have HX := Lib.hid hx
  clear hx
  go_enter Try.func22, Try.ntmps22
  go_wp2
  go_loop [5, 3, 4] (fun i x y => RsumRel xs i x y) (fun i _ _ => 10000 - (intOf i).toNat)
  case atStart => exact ⟨0, by omega, rfl, rfl, rfl⟩
  case round =>
    obtain ⟨k, hk, rfl, rfl, rfl⟩ := hrel
    have x0 : 0 ≤ lo (xs.take k) := by unfold lo; omega
    have x1 : lo (xs.take k) < 65521 := by unfold lo; omega
    have y0 : 0 ≤ hi (xs.take k) := by unfold hi; omega
    have y1 : hi (xs.take k) < 65521 := by unfold hi; omega
    by_cases hlt : k < xs.length
    · have H1 := Lib.hid (lo_take hlt)
      have H2 := Lib.hid (hi_take hlt)
      have z0 : 0 ≤ lo (xs.take (k + 1)) := by unfold lo; omega
      have z1 : lo (xs.take (k + 1)) < 65521 := by unfold lo; omega
      obtain ⟨b, off, rfl, hb, hcell⟩ := hs.at_ hlt
      obtain ⟨t0, t1⟩ := HX.out (xs.getD k 0) (by simp [List.getD, hlt])
      generalize xs.getD k 0 = t at *
      obtain ⟨x', hx'⟩ : ∃ x', lo (xs.take (k + 1)) = x' := ⟨_, rfl⟩
      have C1 : ∀ W, Hid (Calls Try.prog 32 #[.int .i64 (lo (xs.take k) + t)] W fun e w' => e = .returned (.int .i64 x') ∧ W = w') := fun W => by rw [← hx', H1.out]; exact modulo_any _ W (by omega) (by omega)
      have C2 : ∀ W, Hid (Calls Try.prog 32 #[.int .i64 (hi (xs.take k) + x')] W fun e w' => e = .returned (.int .i64 (hi (xs.take (k + 1)))) ∧ W = w') := fun W => by rw [H2.out, hx']; exact modulo_any _ W (by omega) (by omega)
      rw [hx'] at z0 z1
      have HX' := Lib.hid hx'
      clear hx'
      go_wp2_with (first | (go_at_call 32; ((with_reducible refine (C1 _).out.mono ?_); rintro e w' ⟨rfl, rfl⟩)) | (go_at_call 32; ((with_reducible refine (C2 _).out.mono ?_); rintro e w' ⟨rfl, rfl⟩)))
      go_round
      case rel => exact ⟨k + 1, by omega, by go_num, by rw [HX'.out], rfl⟩
      case measure => simp [intOf]; omega
    · have hfull : xs.take k = xs := List.take_of_length_le (by omega)
      rw [hfull] at x0 x1 y0 y1 ⊢
      have CW : ∀ W, Hid (Calls Try.prog 33 #[.int .i64 (lo xs), .int .i64 (hi xs)] W fun e w' => e = .returned (.int .u32 (sm xs)) ∧ W = w') := fun W => by
        have e : sm xs = wh (lo xs) (hi xs) := wh_cg (cg_self _).symm (cg_self _).symm
        rw [e]; exact rwhole_any _ _ W (by omega) (by omega) (by omega) (by omega)
      have HF := Lib.hid hfull
      clear hfull
      go_wp2_with (go_at_call 33; ((with_reducible refine (CW _).out.mono ?_); rintro e w' ⟨rfl, rfl⟩))
      go_ret
      exact ⟨rfl, rfl⟩

def SumRel (w : World) (xs : List Int) (i : Value) (wr : World) : Prop :=
  ∃ k : Nat, k ≤ xs.length ∧ i = .int .i64 (k : Int) ∧ Below w.heap.size w wr ∧ w.heap.size < wr.heap.size ∧ wr.cell? ⟨w.heap.size, 0, none⟩ = some (.int .i64 (lo (xs.take k))) ∧
    wr.cell? ⟨w.heap.size, 1, none⟩ = some (.int .i64 (hi (xs.take k))) ∧ wr.frozen? ⟨w.heap.size, 0, none⟩ = false ∧ wr.frozen? ⟨w.heap.size, 1, none⟩ = false

set_option maxHeartbeats 400000 in
theorem sum_any (A : Option Addr) (c : Nat) (xs : List Int) (w : World) (hl : xs.length ≤ 10000) (hs : Sl w w.heap.size .u8 A xs) (hx : ∀ x ∈ xs, 0 ≤ x ∧ x ≤ 255) :
    Calls Try.prog 20 #[.slice A xs.length c] w (SumPost w xs) := by
  have HX := Lib.hid hx
  clear hx
  go_enter Try.func20, Try.ntmps20
  go_wp2
  go_loopw [9] (fun i wr => SumRel w xs i wr) (fun i _ => 10000 - (intOf i).toNat)
  case atStart => exact ⟨0, by omega, rfl, (Below.refl _ _).alloc (Nat.le_refl _) _, by simp, by simp [lo, tot], by simp [hi, wt], by simp, by simp⟩
  case round =>
    obtain ⟨k, hk, rfl, hbel, hsz, hc0, hc1, hf0, hf1⟩ := hrel
    have x0 : 0 ≤ lo (xs.take k) := by unfold lo; omega
    have x1 : lo (xs.take k) < 65521 := by unfold lo; omega
    have y0 : 0 ≤ hi (xs.take k) := by unfold hi; omega
    have y1 : hi (xs.take k) < 65521 := by unfold hi; omega
    by_cases hlt : k < xs.length
    · have H1 := Lib.hid (lo_take hlt)
      have H2 := Lib.hid (hi_take hlt)
      have z0 : 0 ≤ lo (xs.take (k + 1)) := by unfold lo; omega
      have z1 : lo (xs.take (k + 1)) < 65521 := by unfold lo; omega
      obtain ⟨b, off, rfl, hb, hcell⟩ := (hs.below hbel).at_ hlt
      obtain ⟨t0, t1⟩ := HX.out (xs.getD k 0) (by simp [List.getD, hlt])
      generalize xs.getD k 0 = t at *
      go_wp2_with fail
      refine (half2 _ 2 (lo (xs.take k)) t _ (by go_cell) (by go_cell) (by omega) (by omega) (by omega) (by omega)).mono ?_
      rintro e w' ⟨rfl, rfl⟩
      rw [← H1.out]
      go_wp2_with fail
      refine (half2 _ 2 (hi (xs.take k)) (lo (xs.take (k + 1))) _ (by go_cell) (by go_cell) (by omega) (by omega) (by omega) (by omega)).mono ?_
      rintro e w' ⟨rfl, rfl⟩
      rw [← H2.out]
      go_wp2_with fail
      go_roundw
      case rel =>
        refine ⟨k + 1, by omega, by go_num, ?_, by simp; omega, by go_cell, by go_cell, ?_, ?_⟩
        · exact (((hbel.setCell (Nat.le_refl _) _).setCell (Nat.le_refl _) _).alloc (by simp; omega) _).alloc (by simp; omega) _
        · rw [World.frozen?_alloc_past _ _ _ (by simp; omega), World.frozen?_alloc_past _ _ _ (by simp; omega), World.frozen?_setCell, World.frozen?_setCell]; exact hf0
        · rw [World.frozen?_alloc_past _ _ _ (by simp; omega), World.frozen?_alloc_past _ _ _ (by simp; omega), World.frozen?_setCell, World.frozen?_setCell]; exact hf1
      case measure => simp [intOf]; omega
    · have hfull : xs.take k = xs := List.take_of_length_le (by omega)
      rw [hfull] at x0 x1 y0 y1 hc0 hc1
      have HF := Lib.hid hfull
      clear hfull
      go_wp2_with fail
      refine (whole_any _ _ _ x0 (by omega) y0 (by omega)).mono ?_
      rintro e w' ⟨rfl, hb2⟩
      go_wp2_with fail
      go_ret
      exact ⟨rfl, hbel.trans (hb2.mono hbel.size)⟩

end Go.Proofs.Ytaghbokgcpkjjaa
