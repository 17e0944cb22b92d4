/-
  The walks of the functions of package adler, and of the document's answer, that only reckon: half, count, modulo, the document's whole and May; and split and whole, which box a struct. Conditions: bounds of their arguments.
-/
import Derived.Test.YtaghbokgcpkjjaaSmall
namespace Go.Proofs.Ytaghbokgcpkjjaa
open Go.RowKit

theorem ret_bool {a b : Bool} (h : a = b) : Ending.returned (.bool a) = .returned (.bool b) := by rw [h]

theorem modulo_any (n : Int) (w : World) (h0 : -4611686018427387904 ≤ n) (h1 : n ≤ 9223372036854775807) : Calls Try.prog 32 #[.int .i64 n] w fun e w' => e = .returned (.int .i64 (n % 65521)) ∧ w = w' := by
  by_cases h : 0 ≤ n
  · have hd : decide (n % 65521 < 0) = false := by simp; omega
    go_enter Try.func32, Try.ntmps32
    go_wp2
    go_ret
    exact ⟨rfl, rfl⟩
  · go_enter Try.func32, Try.ntmps32
    go_wp2
    · go_ret
      refine ⟨ret_int ?_, rfl⟩
      have := tm_bd n
      rw [IntWalk.wrap64_in _ (by omega), tm_neg (by assumption)]
    · go_ret
      exact ⟨ret_int (tm_pos (by assumption)), rfl⟩

theorem rwhole_any (x y : Int) (w : World) (x0 : -4611686018427387904 ≤ x) (x1 : x ≤ 9223372036854775807) (y0 : -4611686018427387904 ≤ y) (y1 : y ≤ 9223372036854775807) :
    Calls Try.prog 33 #[.int .i64 x, .int .i64 y] w fun e w' => e = .returned (.int .u32 (wh x y)) ∧ w = w' := by
  have HX : ∀ W, Hid (Calls Try.prog 32 #[.int .i64 x] W fun e w' => e = .returned (.int .i64 (x % 65521)) ∧ W = w') := fun W => modulo_any x W x0 x1
  have HY : ∀ W, Hid (Calls Try.prog 32 #[.int .i64 y] W fun e w' => e = .returned (.int .i64 (y % 65521)) ∧ W = w') := fun W => modulo_any y W y0 y1
  have HH := Lib.hid (show wh x y = y % 65521 * 65536 + x % 65521 from rfl)
  have a0 : 0 ≤ x % 65521 := by omega
  have a1 : x % 65521 < 65521 := by omega
  have b0 : 0 ≤ y % 65521 := by omega
  have b1 : y % 65521 < 65521 := by omega
  generalize wh x y = z at *
  generalize x % 65521 = x' at *
  generalize y % 65521 = y' at *
  go_enter Try.func33, Try.ntmps33
  go_wp2_with (first | (go_at_call 32; ((with_reducible refine (HY _).out.mono ?_); rintro e w' ⟨rfl, rfl⟩)) | (go_at_call 32; ((with_reducible refine (HX _).out.mono ?_); rintro e w' ⟨rfl, rfl⟩)))
  go_ret
  exact ⟨ret_int HH.out.symm, rfl⟩

theorem whole_at (x y : Int) (w : World) (x0 : 0 ≤ x) (x1 : x < 65536) (y0 : 0 ≤ y) (y1 : y < 65536) : Calls Try.prog 30 #[.agg #[.int .i64 x, .int .i64 y]] w fun e w' => e = .returned (.int .u32 (y * 65536 + x)) ∧ w.alloc (.cells #[.int .i64 x, .int .i64 y] 54) = w' := by
  go_enter Try.func30, Try.ntmps30
  go_wp2
  go_ret
  exact ⟨rfl, rfl⟩
theorem whole_any (x y : Int) (w : World) (x0 : 0 ≤ x) (x1 : x < 65536) (y0 : 0 ≤ y) (y1 : y < 65536) : Calls Try.prog 30 #[.agg #[.int .i64 x, .int .i64 y]] w fun e w' => e = .returned (.int .u32 (y * 65536 + x)) ∧ Below w.heap.size w w' :=
  (whole_at x y w x0 x1 y0 y1).mono fun _ _ ⟨he, hw⟩ => ⟨he, hw ▸ (Below.refl _ _).alloc (Nat.le_refl _) _⟩

def HalfPost (w : World) (xs : List Int) (e : Ending) (w' : World) : Prop := e = .returned (.int .i64 (tot xs % 65521)) ∧ w = w'
def HalfRel (xs : List Int) (i n : Value) : Prop := ∃ (k : Nat) (m : Int), i = .int .i64 (k : Int) ∧ n = .int .i64 m ∧ k ≤ xs.length ∧ -65521 < m ∧ m < 65521 ∧ m % 65521 = tot (xs.take k) % 65521

theorem half_any (A : Option Addr) (c : Nat) (xs : List Int) (w : World) (B : Nat) (hl : xs.length ≤ 10) (hs : Sl w B .i64 A xs) (hx : ∀ x ∈ xs, -4611686018427387904 ≤ x ∧ x ≤ 4611686018427387904) :
    Calls Try.prog 29 #[.slice A xs.length c] w (HalfPost w xs) := by
  have HX := Lib.hid hx
  clear hx
  go_enter Try.func29, Try.ntmps29
  go_wp2
  go_loop [8, 3] (fun i n => HalfRel xs i n) (fun i _ => 10 - (intOf i).toNat)
  case atStart => exact ⟨0, 0, rfl, rfl, by omega, by omega, by omega, rfl⟩
  case round =>
    obtain ⟨k, m, rfl, rfl, hk, hm0, hm1, hm⟩ := hrel
    have HM := Lib.hid hm
    clear hm
    by_cases hlt : k < xs.length
    · obtain ⟨b, off, rfl, hb, hcell⟩ := hs.at_ hlt
      obtain ⟨t0, t1⟩ := HX.out (xs.getD k 0) (by simp [List.getD, hlt])
      obtain ⟨t, ht⟩ : ∃ t, xs.getD k 0 = t := ⟨_, rfl⟩
      rw [ht] at hcell t0 t1
      have HT := Lib.hid ht
      clear ht
      go_wp2
      go_round
      case rel =>
        have hb := tm_bd (m + t)
        exact ⟨k + 1, _, by go_num, rfl, by omega, hb.1, hb.2.1, by rw [hb.2.2, tot_take hlt, HT.out]; exact cg_add HM.out rfl⟩
      case measure => simp [intOf]; omega
    · have hend : m % 65521 = tot xs % 65521 := by have := HM.out; rwa [List.take_of_length_le (by omega)] at this
      have HE := Lib.hid hend
      clear hend
      go_wp2
      · go_ret
        exact ⟨ret_int (by have := HE.out; omega), rfl⟩
      · go_ret
        exact ⟨ret_int (by have := HE.out; omega), rfl⟩

end Go.Proofs.Ytaghbokgcpkjjaa
