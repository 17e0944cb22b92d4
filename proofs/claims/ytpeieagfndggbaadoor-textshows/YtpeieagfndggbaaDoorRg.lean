/-
  The walk of the document's digits. Conditions: the number is not negative and below 2^31.
-/
import Derived.Test.YtpeieagfndggbaaDoorNm
import Derived.Test.YtpeieagfndggbaaDoorMem
namespace Go.Proofs.YtpeieagfndggbaaDoor
open Go.RowKit Tx

theorem one_byte (W : World) (x : Int) : (convert 61 9 (.slice (some ⟨W.heap.size, 0, none⟩) 1 1)).run Tryd.prog (W.alloc (.cells #[.int .u8 x] 5)) = .ok (.string (strOfNums [x])) (W.alloc (.cells #[.int .u8 x] 5)) := by
  refine run_convert_bytes_arg (W.alloc (.cells #[.int .u8 x] 5)) 61 5 Tryd.underlying61 Tryd.underlying5 W.heap.size 0 1 1 [x] rfl (fun i hi => ?_) 9 Tryd.underlying9
  obtain rfl : i = 0 := by omega
  rw [cell_of_row _ _ _ _ 5 _ (nalloc_new W _)]
  rfl
theorem nt_one {k : Nat} (h : k < 10) : nt (strOfNums [48 + (k : Int)]) = [48 + k] := by
  have : strOfNums [48 + (k : Int)] = ⟨#[UInt8.ofNat (48 + (k : Int)).toNat]⟩ := rfl
  rw [this]
  show [(UInt8.ofNat (48 + (k : Int)).toNat).toNat] = _
  have e : (48 + (k : Int)).toNat = 48 + k := by omega
  rw [e]
  show [(48 + k) % 256] = _
  rw [Nat.mod_eq_of_lt (by omega)]
set_option maxRecDepth 100000 in
set_option maxHeartbeats 2000000 in
theorem rdigits_any (n : Nat) (w : World) (hn : n ≤ 1073741824) : Calls Tryd.prog 36 #[.int .i64 n] w fun e w' => (∃ u, nt u = dg n ∧ e = .returned (.string u)) ∧ Below w.heap.size w w' := by
  have hlen := dg_len (n := n) (k := 10) (by omega)
  go_enter Tryd.func36, Tryd.ntmps36
  go_wp2
  go_loopw [0, 3] (fun x y w' => ∃ (m : Nat) (u : ByteArray), x = .int .i64 (m : Int) ∧ y = .string u ∧ m ≤ 1073741824 ∧ Hid (dg m ++ nt u = dg n) ∧ Hid (Below w.heap.size w w')) (fun x _ _ => (intOf x).toNat)
  case atStart => exact ⟨n, ⟨#[]⟩, rfl, rfl, hn, Lib.hid (List.append_nil _), Below.refl _ _⟩
  case round =>
    obtain ⟨m, u, rfl, rfl, hm, hd, hB⟩ := hrel
    by_cases h0 : 0 < m
    · have i0 : 0 < (m : Int) := by omega
      have hsz : u.size ≤ 10 := by
        have := congrArg List.length hd.out
        rw [List.length_append, nt_len] at this
        omega
      have HC := one_byte wr (48 + (m : Int) % 10)
      have e1 : (m : Int) % 10 = ((m % 10 : Nat) : Int) := by omega
      have hS : nt (strOfNums [48 + (m : Int) % 10]) = [48 + m % 10] := by rw [e1]; exact nt_one (by omega)
      have hS1 : (strOfNums [48 + (m : Int) % 10]).size = 1 := by rw [← nt_len, hS]; rfl
      have hB2 := Lib.hid (hB.out.alloc hB.out.size (.cells #[.int .u8 (48 + (m : Int) % 10)] 5))
      generalize strOfNums [48 + (m : Int) % 10] = S at *
      clear e1
      have q1 : ¬ 9223372036854775807 < S.size + u.size := by omega
      go_wp2
      go_roundw
      case rel =>
        refine ⟨m / 10, S ++ u, by go_num, rfl, by omega, ?_, hB2⟩
        show _ = _
        rw [nt_append, hS, ← hd.out, dg_pos h0, List.append_assoc]
      case measure => simp [intOf]; omega
    · have i0 : ¬ 0 < (m : Int) := by omega
      obtain rfl : m = 0 := by omega
      go_wp2
      go_ret
      exact ⟨⟨u, hd.out, rfl⟩, hB.out⟩
end Go.Proofs.YtpeieagfndggbaaDoor
