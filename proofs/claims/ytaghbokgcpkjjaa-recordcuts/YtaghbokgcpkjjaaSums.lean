/-
  The walks of record.appendSum and record.readSum: the four bytes of a sum, laid and read. Conditions: the sum fits a uint32, the row is short; at most four bytes are read.
-/
import Derived.Test.YtaghbokgcpkjjaaApp
import Derived.Test.YtaghbokgcpkjjaaRecs
import Derived.Laws.BitsAllLaws
namespace Go.Proofs.Ytaghbokgcpkjjaa
open Go.RowKit

def ApRel (w : World) (B : Nat) (xs : List Int) (s : Int) (v i : Value) (wr : World) : Prop :=
  ∃ k : Nat, k ≤ 4 ∧ i = .int .i64 (k : Int) ∧ wr.ownsRow B 5 1 v (xs.length + k) ((xs ++ (su s).take k).map (Value.int .u8)) ∧ Below B w wr ∧ B ≤ wr.heap.size

set_option maxHeartbeats 800000 in
theorem apsum_any (B : Nat) (v : Value) (s : Int) (xs : List Int) (w : World) (hB : B ≤ w.heap.size) (hown : w.ownsRow B 5 1 v xs.length (xs.map (Value.int .u8))) (s0 : 0 ≤ s) (s1 : s < 4294967296)
    (hx : xs.length ≤ 100000) : Calls Try.prog 19 #[v, .int .u32 s] w (OutPost w B (xs ++ su s)) := by
  obtain ⟨i0, hi, hz0, hz1, hz2⟩ := info_parts info5
  obtain ⟨A, c, rfl⟩ := own_form hown
  go_enter Try.func19, Try.ntmps19
  go_wp2
  go_loopw [0, 6] (fun v i wr => ApRel w B xs s v i wr) (fun _ i _ => 4 - (intOf i).toNat)
  case atStart => exact ⟨0, by omega, rfl, by simpa using hown, Below.refl _ _, hB⟩
  case round =>
    obtain ⟨k, hk, rfl, hown2, hbel, hsz⟩ := hrel
    obtain ⟨A2, c2, rfl⟩ := own_form hown2
    clear hown
    match k, hk with
    | 0, _ =>
      go_wp2_with (at_builtin; refine wpList_append_own _ rfl _ _ 22 rfl B 5 i0 (.int .u8 0) 1 1 Try.underlying22 hi hz0 hz1 hz2 rfl (by decide) _ _ _ rfl (hown2.alloc _) ⟨wr.heap.size, 0, none⟩ 1 1 [.int .u8 (s / 16777216)] rfl rfl ?c1 ?c2 ?c3 ?c4 ?c5 ?_)
      case c1 => exact cell_one_new _ _ _
      case c2 => intro u hu; simp at hu; subst hu; rfl
      case c3 => unfold maxLen; omega
      case c4 => omega
      case c5 => simp; omega
      intro v' w1 hown' hgrow _
      go_wp2
      go_roundw
      case rel => exact ⟨1, by omega, rfl, by simpa [su] using hown', ((hbel.alloc hsz _).grown hgrow (by simp; omega) (fun q hq => (hown2.lt q hq).1)), Nat.le_trans hsz (by have := hgrow.size; simp at this; omega)⟩
      case measure => simp [intOf]
    | 1, _ =>
      go_wp2_with (at_builtin; refine wpList_append_own _ rfl _ _ 22 rfl B 5 i0 (.int .u8 0) 1 1 Try.underlying22 hi hz0 hz1 hz2 rfl (by decide) _ _ _ rfl (hown2.alloc _) ⟨wr.heap.size, 0, none⟩ 1 1 [.int .u8 (s / 65536 % 256)] rfl rfl ?c1 ?c2 ?c3 ?c4 ?c5 ?_)
      case c1 => exact cell_one_new _ _ _
      case c2 => intro u hu; simp at hu; subst hu; rfl
      case c3 => unfold maxLen; omega
      case c4 => omega
      case c5 => simp; omega
      intro v' w1 hown' hgrow _
      go_wp2
      go_roundw
      case rel => exact ⟨2, by omega, rfl, by simpa [su] using hown', ((hbel.alloc hsz _).grown hgrow (by simp; omega) (fun q hq => (hown2.lt q hq).1)), Nat.le_trans hsz (by have := hgrow.size; simp at this; omega)⟩
      case measure => simp [intOf]
    | 2, _ =>
      go_wp2_with (at_builtin; refine wpList_append_own _ rfl _ _ 22 rfl B 5 i0 (.int .u8 0) 1 1 Try.underlying22 hi hz0 hz1 hz2 rfl (by decide) _ _ _ rfl (hown2.alloc _) ⟨wr.heap.size, 0, none⟩ 1 1 [.int .u8 (s / 256 % 256)] rfl rfl ?c1 ?c2 ?c3 ?c4 ?c5 ?_)
      case c1 => exact cell_one_new _ _ _
      case c2 => intro u hu; simp at hu; subst hu; rfl
      case c3 => unfold maxLen; omega
      case c4 => omega
      case c5 => simp; omega
      intro v' w1 hown' hgrow _
      go_wp2
      go_roundw
      case rel => exact ⟨3, by omega, rfl, by simpa [su] using hown', ((hbel.alloc hsz _).grown hgrow (by simp; omega) (fun q hq => (hown2.lt q hq).1)), Nat.le_trans hsz (by have := hgrow.size; simp at this; omega)⟩
      case measure => simp [intOf]
    | 3, _ =>
      go_wp2_with (at_builtin; refine wpList_append_own _ rfl _ _ 22 rfl B 5 i0 (.int .u8 0) 1 1 Try.underlying22 hi hz0 hz1 hz2 rfl (by decide) _ _ _ rfl (hown2.alloc _) ⟨wr.heap.size, 0, none⟩ 1 1 [.int .u8 (s % 256)] rfl rfl ?c1 ?c2 ?c3 ?c4 ?c5 ?_)
      case c1 => exact cell_one_new _ _ _
      case c2 => intro u hu; simp at hu; subst hu; rfl
      case c3 => unfold maxLen; omega
      case c4 => omega
      case c5 => simp; omega
      intro v' w1 hown' hgrow _
      go_wp2
      go_roundw
      case rel => exact ⟨4, by omega, rfl, by simpa [su] using hown', ((hbel.alloc hsz _).grown hgrow (by simp; omega) (fun q hq => (hown2.lt q hq).1)), Nat.le_trans hsz (by have := hgrow.size; simp at this; omega)⟩
      case measure => simp [intOf]
    | 4, _ =>
      go_wp2
      go_ret
      exact ⟨_, rfl, by simpa [su] using hown2, hbel⟩

def RsRel (xs : List Int) (t i : Value) : Prop := ∃ k : Nat, k ≤ xs.length ∧ i = .int .i64 (k : Int) ∧ t = .int .u32 (us (xs.take k))

theorem us_snoc (l : List Int) (x : Int) : us (l ++ [x]) = us l * 256 + x := by simp [us]
theorem us_take {xs : List Int} {k : Nat} (h : k < xs.length) : us (xs.take (k + 1)) = us (xs.take k) * 256 + xs.getD k 0 := by
  have e : xs.getD k 0 = xs[k] := by simp [List.getD, h]
  rw [e, List.take_succ_eq_append_getElem h, us_snoc]
theorem us_bd (xs : List Int) (h : ∀ x ∈ xs, 0 ≤ x ∧ x ≤ 255) : 0 ≤ us xs ∧ us xs < 256 ^ xs.length := by
  generalize hn : xs.length = n
  induction n generalizing xs with
  | zero => obtain rfl := List.length_eq_zero_iff.1 hn; simp [us]
  | succ n ih =>
    have hl : n < xs.length := by omega
    have e := us_take hl
    rw [List.take_of_length_le (by omega)] at e
    have hb := h (xs.getD n 0) (by simp [List.getD, hl])
    have := ih (xs.take n) (fun x hx => h x (List.mem_of_mem_take hx)) (by rw [List.length_take]; omega)
    rw [e, Int.pow_succ]
    omega
theorem pow256 : ∀ n, n ≤ 3 → (256 : Int) ^ n ≤ 16777216 := by decide
theorem us_lt {xs : List Int} (h : ∀ x ∈ xs, 0 ≤ x ∧ x ≤ 255) (hl : xs.length ≤ 3) : 0 ≤ us xs ∧ us xs < 16777216 := by
  have h1 := us_bd xs h
  exact ⟨h1.1, Int.lt_of_lt_of_le h1.2 (pow256 _ hl)⟩
theorem or_byte {u t : Int} (u0 : 0 ≤ u) (u1 : u < 16777216) (t0 : 0 ≤ t) (t1 : t ≤ 255) : bits .or .u32 (u * 256) t = u * 256 + t := by
  obtain ⟨a, rfl⟩ := Int.eq_ofNat_of_zero_le u0
  obtain ⟨b, rfl⟩ := Int.eq_ofNat_of_zero_le t0
  have e : ((a : Int) * 256) = ((a * 256 : Nat) : Int) := by simp
  rw [e, u32_or_nat _ _ (by omega) (by omega)]
  have h : a * 256 ||| b = a * 256 + b := by
    have := Nat.two_pow_add_eq_or_of_lt (i := 8) (b := b) (by omega) a
    rw [Nat.mul_comm a 256]
    exact this.symm
  rw [h]; simp

theorem rdsum_any (A : Option Addr) (c : Nat) (xs : List Int) (w : World) (B : Nat) (hl : xs.length ≤ 4) (hs : Sl w B .u8 A xs) (hx : ∀ x ∈ xs, 0 ≤ x ∧ x ≤ 255) :
    Calls Try.prog 24 #[.slice A xs.length c] w (IntPost w .u32 (us xs)) := by
  have HX := Lib.hid hx
  clear hx
  go_enter Try.func24, Try.ntmps24
  go_wp2
  go_loop [7, 3] (fun i t => RsRel xs t i) (fun i _ => 4 - (intOf i).toNat)
  case atStart => exact ⟨0, by omega, rfl, rfl⟩
  case round =>
    obtain ⟨k, hk, rfl, rfl⟩ := hrel
    by_cases hlt : k < xs.length
    · have H1 := Lib.hid (us_take hlt)
      obtain ⟨b, off, rfl, hb, hcell⟩ := hs.at_ hlt
      obtain ⟨t0, t1⟩ := HX.out (xs.getD k 0) (by simp [List.getD, hlt])
      obtain ⟨u0, u2⟩ := us_lt (xs := xs.take k) (fun x hx => HX.out x (List.mem_of_mem_take hx)) (by rw [List.length_take]; omega)
      generalize xs.getD k 0 = t at *
      generalize us (xs.take k) = u at *
      go_wp2
      go_round
      case rel => exact ⟨k + 1, by omega, by go_num, by rw [H1.out, or_byte u0 u2 t0 t1]⟩
      case measure => simp [intOf]; omega
    · have hfull : xs.take k = xs := List.take_of_length_le (by omega)
      rw [hfull]
      go_wp2
      go_ret
      exact ⟨rfl, rfl⟩

end Go.Proofs.Ytaghbokgcpkjjaa
