/-
  The walk of the document's Put of a command: the bytes, or the error that refuses it. No conditions.
-/
import Derived.Test.YteajbcngimccmaaDoorPut4
import Derived.Test.YteajbcngimccmaaDoorRmay
import Derived.Test.YteajbcngimccmaaDoorRput
namespace Go.Proofs.YteajbcngimccmaaDoor
open Go.RowKit

theorem rputall_yes (A : Option Addr) (c : Nat) (l : List Int) (w : World) (hl : l.length ≤ 10000) (hs : Sl w w.heap.size .i64 A l) (hok : okAll l = true) : Calls Tryd.prog 20 #[.slice A l.length c] w (OwnPost w (pb l) 0) :=
  (rputall_any A c l w hl hs).mono fun _ _ h => by
    rcases h with ⟨_, h⟩ | ⟨h, _⟩
    · exact h
    · rw [hok] at h; cases h

theorem rput4_no (u s k h n : Int) (t : ByteArray) (w : World) (hm : mayB u s k h n t.size = false) : Calls Tryd.prog 11 #[cv u s k h n t] w (PutPost w .u8 [] 1) := by
  have HM : ∀ W, Hid (Calls Tryd.prog 13 #[cv u s k h n t] W (BoolPost W false)) := fun W => by have := rmay_any u s k h n t W; rw [hm] at this; exact this
  go_enter Tryd.func11, Tryd.ntmps11
  go_wp2_with fail
  have BW : Below w.heap.size w (w.alloc (.cells #[.int .i64 u, .int .i64 s, .int .i64 k, .int .i64 h, .int .i64 n, .string t] 23)) := (Below.refl _ _).alloc (Nat.le_refl _) _
  generalize (w.alloc (.cells #[.int .i64 u, .int .i64 s, .int .i64 k, .int .i64 h, .int .i64 n, .string t] 23)) = W0 at *
  refine (HM W0).out.mono ?_
  rintro e w1 ⟨rfl, B1⟩
  go_wp2
  go_ret2
  exact ⟨none, 0, rfl, ⟨Sl.nil, Nat.le_refl _⟩, BW.trans (B1.mono BW.size)⟩

set_option maxHeartbeats 1000000 in
theorem rput4_nop (w : World) (hm : mayB 0 0 0 0 0 0 = true) (hok : okAll [0] = true) : Calls Tryd.prog 11 #[cv 0 0 0 0 0 { data := #[] }] w (PutPost w .u8 (pb [0] ++ bt { data := #[] }) 0) := by
  obtain ⟨i0, hi, hz0, hz1, hz2⟩ := info_parts info5
  obtain ⟨i3, ji, jz0, jz1, jz2⟩ := info_parts info3x
  have HM : ∀ W, Hid (Calls Tryd.prog 13 #[cv 0 0 0 0 0 { data := #[] }] W (BoolPost W true)) := fun W => by have := rmay_any 0 0 0 0 0 { data := #[] } W; rw [show mayB 0 0 0 0 0 ({ data := #[] } : ByteArray).size = true from hm] at this; exact this
  have HOK := Lib.hid hok
  have hpl : (pb [0]).length ≤ 8 * 1 := pb_le _ hok
  have hz9 : ({ data := #[] } : ByteArray).size = 0 := rfl
  clear hm hok
  go_enter Tryd.func11, Tryd.ntmps11
  go_wp2_with fail
  have BW : Below w.heap.size w (w.alloc (.cells #[.int .i64 0, .int .i64 0, .int .i64 0, .int .i64 0, .int .i64 0, .string { data := #[] }] 23)) := (Below.refl _ _).alloc (Nat.le_refl _) _
  have Z0 : (w.alloc (.cells #[.int .i64 0, .int .i64 0, .int .i64 0, .int .i64 0, .int .i64 0, .string { data := #[] }] 23)).heap.size = w.heap.size + 1 := by simp
  have C0 := cb_new w 0 0 0 0 0 { data := #[] }
  generalize (w.alloc (.cells #[.int .i64 0, .int .i64 0, .int .i64 0, .int .i64 0, .int .i64 0, .string { data := #[] }] 23)) = W0 at *
  refine (HM W0).out.mono ?_
  rintro e w1 ⟨rfl, B1⟩
  have q1 := B1.size
  rw [Z0] at B1
  have q1' : w.heap.size < w1.heap.size := by omega
  obtain ⟨p0, p1, p2, p3, p4, p5⟩ := C0.on B1 (by omega)
  have own2 : (w1.alloc (.cells #[.int .i64 0] 3)).ownsRow (w.heap.size + 1) 3 1 (.slice (some ⟨w1.heap.size, 0, none⟩) 1 1) 1 ([0].map (Value.int .i64)) := row_own w1 _ [0] (by omega) (by simp)
  have B2 : Below (w.heap.size + 1) W0 (w1.alloc (.cells #[.int .i64 0] 3)) := B1.alloc (by omega) _
  go_wp2_with fail
  clear p0 p1 p2 p3 p4 p5
  generalize w1.alloc (.cells #[.int .i64 0] 3) = w2 at *
  have z2 := B2.size
  have S9 : Sl w2 w2.heap.size .i64 (some ⟨w1.heap.size, 0, none⟩) [0] := by
    obtain ⟨A9, c9, e9, S9, _⟩ := own_slice (xs := [0]) own2
    cases e9
    exact S9
  refine (rputall_yes (some ⟨w1.heap.size, 0, none⟩) 1 [0] w2 (by simp) S9 HOK.out).mono ?_
  rintro e w9 ⟨v9, rfl, own9, B9⟩
  have q9 := B9.size
  have B09 : Below (w.heap.size + 1) W0 w9 := B2.trans (B9.mono (by omega))
  obtain ⟨p0, p1, p2, p3, p4, p5⟩ := C0.on B09 (by omega)
  generalize pb [0] = ys at *
  obtain ⟨A9, c9, rfl⟩ := own_form own9
  clear B2 B9 S9 own2
  go_wp2_with (at_builtin; refine Hid.out ?_)
  unfold Hid
  refine Lib.wpList_append_own_string w9 rfl (.tmp 50) (.tmp 52) 25 9 rfl w2.heap.size 5 i0 Tryd.underlying25 Tryd.underlying9 hi hz0 hz1 hz2 _ ys.length (ys.map (Value.int .u8)) rfl own9 { data := #[] } rfl (by unfold maxLen; omega) (by omega) (by omega) ?_
  intro vA wA ownA gA _
  go_wp2
  go_ret2
  have own5 : wA.ownsRow w2.heap.size 5 1 vA (ys ++ bt { data := #[] }).length ((ys ++ bt { data := #[] }).map (Value.int .u8)) := by
    rw [bt_cells] at ownA
    rw [List.length_append, List.map_append, bt_len]
    exact ownA
  obtain ⟨A5, c5, rfl, hs5⟩ := own_slice own5
  have Bw9 : Below w.heap.size w w9 := BW.trans (B09.mono (by omega))
  exact ⟨A5, c5, rfl, hs5, Bw9.grown gA Bw9.size (fun q hq => by have := (own9.lt q hq).1; omega)⟩

set_option maxHeartbeats 1000000 in
theorem rput4_nt (u s k h n : Int) (t : ByteArray) (w : World) (hk : (k == 0) = false) (hn : (n == 0) = false) (ht : (0 : Int) < (t.size : Int)) (ht6 : t.size ≤ 64) (hm : mayB u s k h n t.size = true) (hok : okAll [k, u, s, h, n, (t.size : Int)] = true) : Calls Tryd.prog 11 #[cv u s k h n t] w (PutPost w .u8 (pb [k, u, s, h, n, (t.size : Int)] ++ bt t) 0) := by
  obtain ⟨i0, hi, hz0, hz1, hz2⟩ := info_parts info5
  obtain ⟨i3, ji, jz0, jz1, jz2⟩ := info_parts info3x
  have HM : ∀ W, Hid (Calls Tryd.prog 13 #[cv u s k h n t] W (BoolPost W true)) := fun W => by have := rmay_any u s k h n t W; rw [hm] at this; exact this
  have HOK := Lib.hid hok
  have hpl : (pb [k, u, s, h, n, (t.size : Int)]).length ≤ 8 * 6 := pb_le _ hok
  have hz9 : ({ data := #[] } : ByteArray).size = 0 := rfl
  clear hm hok
  go_enter Tryd.func11, Tryd.ntmps11
  go_wp2_with fail
  have BW : Below w.heap.size w (w.alloc (.cells #[.int .i64 u, .int .i64 s, .int .i64 k, .int .i64 h, .int .i64 n, .string t] 23)) := (Below.refl _ _).alloc (Nat.le_refl _) _
  have Z0 : (w.alloc (.cells #[.int .i64 u, .int .i64 s, .int .i64 k, .int .i64 h, .int .i64 n, .string t] 23)).heap.size = w.heap.size + 1 := by simp
  have C0 := cb_new w u s k h n t
  generalize (w.alloc (.cells #[.int .i64 u, .int .i64 s, .int .i64 k, .int .i64 h, .int .i64 n, .string t] 23)) = W0 at *
  refine (HM W0).out.mono ?_
  rintro e w1 ⟨rfl, B1⟩
  have q1 := B1.size
  rw [Z0] at B1
  have q1' : w.heap.size < w1.heap.size := by omega
  obtain ⟨p0, p1, p2, p3, p4, p5⟩ := C0.on B1 (by omega)
  go_wp2_with (at_builtin; refine Hid.out ?_)
  unfold Hid
  clear p0 p1 p2 p3 p4 p5
  have own2 : (w1.alloc (.cells #[.int .i64 k] 3)).ownsRow (w.heap.size + 1) 3 1 (.slice (some ⟨w1.heap.size, 0, none⟩) 1 1) 1 ([k].map (Value.int .i64)) := row_own w1 _ [k] (by omega) (by simp)
  have B2 : Below (w.heap.size + 1) W0 (w1.alloc (.cells #[.int .i64 k] 3)) := B1.alloc (by omega) _
  have Z2 : (w1.alloc (.cells #[.int .i64 k] 3)).heap.size = w1.heap.size + 1 := by simp
  generalize w1.alloc (.cells #[.int .i64 k] 3) = w2 at *
  have S2 := row_sl w2 [u, s, h]
  rw [Z2] at S2
  refine wpList_app rfl (.tmp 18) (.tmp 25) 36 rfl (w.heap.size + 1) 3 i3 (.int .i64 0) 8 Tryd.underlying36 ji jz0 jz1 jz2 rfl _ 1 ([k].map (Value.int .i64)) rfl (own2.alloc _) (w1.heap.size + 1 + 1) .i64 (some ⟨w1.heap.size + 1, 0, none⟩) 3 [u, s, h] rfl S2 (by unfold maxLen; simp) (by simp) (by simp; omega) ?_
  intro v3 w3 own3' g3
  have own3 : w3.ownsRow (w.heap.size + 1) 3 1 v3 4 ([k, u, s, h].map (Value.int .i64)) := by simpa using own3'
  have B3 : Below (w.heap.size + 1) W0 w3 := (B2.alloc (by omega) (.cells #[.int .i64 u, .int .i64 s, .int .i64 h] 3)).grown g3 (by simp; omega) (fun q hq => ((own2.alloc (.cells #[.int .i64 u, .int .i64 s, .int .i64 h] 3)).lt q hq).1)
  have C3 := C0.on B3 (Nat.lt_succ_self _)
  clear own3' g3 own2 B2
  obtain ⟨A3, c3, rfl⟩ := own_form own3
  have z3 := B3.size
  obtain ⟨p30, p31, p32, p33, p34, p35⟩ := C3
  go_wp2_with (at_builtin; refine Hid.out ?_)
  unfold Hid
  clear p30 p31 p32 p33 p34 p35
  refine wpList_app rfl (.tmp 30) (.tmp 33) 36 rfl (w.heap.size + 1) 3 i3 (.int .i64 0) 8 Tryd.underlying36 ji jz0 jz1 jz2 rfl _ 4 ([k, u, s, h].map (Value.int .i64)) rfl (own3.alloc _) (w3.heap.size + 1) .i64 (some ⟨w3.heap.size, 0, none⟩) 1 [n] rfl (row_sl w3 [n]) (by unfold maxLen; simp) (by simp) (by simp; omega) ?_
  intro v4 w4 own4' g4
  have own4 : w4.ownsRow (w.heap.size + 1) 3 1 v4 5 ([k, u, s, h, n].map (Value.int .i64)) := by simpa using own4'
  have B4 : Below (w.heap.size + 1) W0 w4 := (B3.alloc (by omega) (.cells #[.int .i64 n] 3)).grown g4 (by simp; omega) (fun q hq => ((own3.alloc (.cells #[.int .i64 n] 3)).lt q hq).1)
  have C4 := C0.on B4 (Nat.lt_succ_self _)
  clear own4' g4 own3 B3
  obtain ⟨A4, c4, rfl⟩ := own_form own4
  have z4 := B4.size
  obtain ⟨p40, p41, p42, p43, p44, p45⟩ := C4
  go_wp2_with (at_builtin; refine Hid.out ?_)
  unfold Hid
  clear p40 p41 p42 p43 p44 p45
  refine wpList_app rfl (.tmp 39) (.tmp 43) 36 rfl (w.heap.size + 1) 3 i3 (.int .i64 0) 8 Tryd.underlying36 ji jz0 jz1 jz2 rfl _ 5 ([k, u, s, h, n].map (Value.int .i64)) rfl (own4.alloc _) (w4.heap.size + 1) .i64 (some ⟨w4.heap.size, 0, none⟩) 1 [(t.size : Int)] rfl (row_sl w4 [(t.size : Int)]) (by unfold maxLen; simp) (by simp) (by simp; omega) ?_
  intro v5 w5 own5' g5
  have own5 : w5.ownsRow (w.heap.size + 1) 3 1 v5 6 ([k, u, s, h, n, (t.size : Int)].map (Value.int .i64)) := by simpa using own5'
  have B5 : Below (w.heap.size + 1) W0 w5 := (B4.alloc (by omega) (.cells #[.int .i64 (t.size : Int)] 3)).grown g5 (by simp; omega) (fun q hq => ((own4.alloc (.cells #[.int .i64 (t.size : Int)] 3)).lt q hq).1)
  have C5 := C0.on B5 (Nat.lt_succ_self _)
  clear own5' g5 own4 B4
  obtain ⟨A5, c5, rfl⟩ := own_form own5
  obtain ⟨p0, p1, p2, p3, p4, p5⟩ := C5
  go_wp2_with fail
  clear p0 p1 p2 p3 p4 p5
  have z5 := B5.size
  have S9 : Sl w5 w5.heap.size .i64 A5 [k, u, s, h, n, (t.size : Int)] := by
    obtain ⟨A9, c9, e9, S9, _⟩ := own_slice (xs := [k, u, s, h, n, (t.size : Int)]) own5
    cases e9
    exact S9
  refine (rputall_yes A5 c5 [k, u, s, h, n, (t.size : Int)] w5 (by simp) S9 HOK.out).mono ?_
  rintro e w9 ⟨v9, rfl, own9, B9⟩
  have q9 := B9.size
  have B09 : Below (w.heap.size + 1) W0 w9 := B5.trans (B9.mono (by omega))
  obtain ⟨p0, p1, p2, p3, p4, p5⟩ := C0.on B09 (by omega)
  generalize pb [k, u, s, h, n, (t.size : Int)] = ys at *
  obtain ⟨A9, c9, rfl⟩ := own_form own9
  clear B5 B9 S9 own5
  go_wp2_with (at_builtin; refine Hid.out ?_)
  unfold Hid
  refine Lib.wpList_append_own_string w9 rfl (.tmp 50) (.tmp 52) 25 9 rfl w5.heap.size 5 i0 Tryd.underlying25 Tryd.underlying9 hi hz0 hz1 hz2 _ ys.length (ys.map (Value.int .u8)) rfl own9 t rfl (by unfold maxLen; omega) (by omega) (by omega) ?_
  intro vA wA ownA gA _
  go_wp2
  go_ret2
  have own5 : wA.ownsRow w5.heap.size 5 1 vA (ys ++ bt t).length ((ys ++ bt t).map (Value.int .u8)) := by
    rw [bt_cells] at ownA
    rw [List.length_append, List.map_append, bt_len]
    exact ownA
  obtain ⟨A5, c5, rfl, hs5⟩ := own_slice own5
  have Bw9 : Below w.heap.size w w9 := BW.trans (B09.mono (by omega))
  exact ⟨A5, c5, rfl, hs5, Bw9.grown gA Bw9.size (fun q hq => by have := (own9.lt q hq).1; omega)⟩

set_option maxHeartbeats 1000000 in
theorem rput4_n (u s k h n : Int) (w : World) (hk : (k == 0) = false) (hn : (n == 0) = false) (hm : mayB u s k h n 0 = true) (hok : okAll [k, u, s, h, n] = true) : Calls Tryd.prog 11 #[cv u s k h n { data := #[] }] w (PutPost w .u8 (pb [k, u, s, h, n] ++ bt { data := #[] }) 0) := by
  obtain ⟨i0, hi, hz0, hz1, hz2⟩ := info_parts info5
  obtain ⟨i3, ji, jz0, jz1, jz2⟩ := info_parts info3x
  have HM : ∀ W, Hid (Calls Tryd.prog 13 #[cv u s k h n { data := #[] }] W (BoolPost W true)) := fun W => by have := rmay_any u s k h n { data := #[] } W; rw [show mayB u s k h n ({ data := #[] } : ByteArray).size = true from hm] at this; exact this
  have HOK := Lib.hid hok
  have hpl : (pb [k, u, s, h, n]).length ≤ 8 * 5 := pb_le _ hok
  have hz9 : ({ data := #[] } : ByteArray).size = 0 := rfl
  clear hm hok
  go_enter Tryd.func11, Tryd.ntmps11
  go_wp2_with fail
  have BW : Below w.heap.size w (w.alloc (.cells #[.int .i64 u, .int .i64 s, .int .i64 k, .int .i64 h, .int .i64 n, .string { data := #[] }] 23)) := (Below.refl _ _).alloc (Nat.le_refl _) _
  have Z0 : (w.alloc (.cells #[.int .i64 u, .int .i64 s, .int .i64 k, .int .i64 h, .int .i64 n, .string { data := #[] }] 23)).heap.size = w.heap.size + 1 := by simp
  have C0 := cb_new w u s k h n { data := #[] }
  generalize (w.alloc (.cells #[.int .i64 u, .int .i64 s, .int .i64 k, .int .i64 h, .int .i64 n, .string { data := #[] }] 23)) = W0 at *
  refine (HM W0).out.mono ?_
  rintro e w1 ⟨rfl, B1⟩
  have q1 := B1.size
  rw [Z0] at B1
  have q1' : w.heap.size < w1.heap.size := by omega
  obtain ⟨p0, p1, p2, p3, p4, p5⟩ := C0.on B1 (by omega)
  go_wp2_with (at_builtin; refine Hid.out ?_)
  unfold Hid
  clear p0 p1 p2 p3 p4 p5
  have own2 : (w1.alloc (.cells #[.int .i64 k] 3)).ownsRow (w.heap.size + 1) 3 1 (.slice (some ⟨w1.heap.size, 0, none⟩) 1 1) 1 ([k].map (Value.int .i64)) := row_own w1 _ [k] (by omega) (by simp)
  have B2 : Below (w.heap.size + 1) W0 (w1.alloc (.cells #[.int .i64 k] 3)) := B1.alloc (by omega) _
  have Z2 : (w1.alloc (.cells #[.int .i64 k] 3)).heap.size = w1.heap.size + 1 := by simp
  generalize w1.alloc (.cells #[.int .i64 k] 3) = w2 at *
  have S2 := row_sl w2 [u, s, h]
  rw [Z2] at S2
  refine wpList_app rfl (.tmp 18) (.tmp 25) 36 rfl (w.heap.size + 1) 3 i3 (.int .i64 0) 8 Tryd.underlying36 ji jz0 jz1 jz2 rfl _ 1 ([k].map (Value.int .i64)) rfl (own2.alloc _) (w1.heap.size + 1 + 1) .i64 (some ⟨w1.heap.size + 1, 0, none⟩) 3 [u, s, h] rfl S2 (by unfold maxLen; simp) (by simp) (by simp; omega) ?_
  intro v3 w3 own3' g3
  have own3 : w3.ownsRow (w.heap.size + 1) 3 1 v3 4 ([k, u, s, h].map (Value.int .i64)) := by simpa using own3'
  have B3 : Below (w.heap.size + 1) W0 w3 := (B2.alloc (by omega) (.cells #[.int .i64 u, .int .i64 s, .int .i64 h] 3)).grown g3 (by simp; omega) (fun q hq => ((own2.alloc (.cells #[.int .i64 u, .int .i64 s, .int .i64 h] 3)).lt q hq).1)
  have C3 := C0.on B3 (Nat.lt_succ_self _)
  clear own3' g3 own2 B2
  obtain ⟨A3, c3, rfl⟩ := own_form own3
  have z3 := B3.size
  obtain ⟨p30, p31, p32, p33, p34, p35⟩ := C3
  go_wp2_with (at_builtin; refine Hid.out ?_)
  unfold Hid
  clear p30 p31 p32 p33 p34 p35
  refine wpList_app rfl (.tmp 30) (.tmp 33) 36 rfl (w.heap.size + 1) 3 i3 (.int .i64 0) 8 Tryd.underlying36 ji jz0 jz1 jz2 rfl _ 4 ([k, u, s, h].map (Value.int .i64)) rfl (own3.alloc _) (w3.heap.size + 1) .i64 (some ⟨w3.heap.size, 0, none⟩) 1 [n] rfl (row_sl w3 [n]) (by unfold maxLen; simp) (by simp) (by simp; omega) ?_
  intro v4 w4 own4' g4
  have own4 : w4.ownsRow (w.heap.size + 1) 3 1 v4 5 ([k, u, s, h, n].map (Value.int .i64)) := by simpa using own4'
  have B4 : Below (w.heap.size + 1) W0 w4 := (B3.alloc (by omega) (.cells #[.int .i64 n] 3)).grown g4 (by simp; omega) (fun q hq => ((own3.alloc (.cells #[.int .i64 n] 3)).lt q hq).1)
  have C4 := C0.on B4 (Nat.lt_succ_self _)
  clear own4' g4 own3 B3
  obtain ⟨A4, c4, rfl⟩ := own_form own4
  obtain ⟨p0, p1, p2, p3, p4, p5⟩ := C4
  go_wp2_with fail
  clear p0 p1 p2 p3 p4 p5
  have z4 := B4.size
  have S9 : Sl w4 w4.heap.size .i64 A4 [k, u, s, h, n] := by
    obtain ⟨A9, c9, e9, S9, _⟩ := own_slice (xs := [k, u, s, h, n]) own4
    cases e9
    exact S9
  refine (rputall_yes A4 c4 [k, u, s, h, n] w4 (by simp) S9 HOK.out).mono ?_
  rintro e w9 ⟨v9, rfl, own9, B9⟩
  have q9 := B9.size
  have B09 : Below (w.heap.size + 1) W0 w9 := B4.trans (B9.mono (by omega))
  obtain ⟨p0, p1, p2, p3, p4, p5⟩ := C0.on B09 (by omega)
  generalize pb [k, u, s, h, n] = ys at *
  obtain ⟨A9, c9, rfl⟩ := own_form own9
  clear B4 B9 S9 own4
  go_wp2_with (at_builtin; refine Hid.out ?_)
  unfold Hid
  refine Lib.wpList_append_own_string w9 rfl (.tmp 50) (.tmp 52) 25 9 rfl w4.heap.size 5 i0 Tryd.underlying25 Tryd.underlying9 hi hz0 hz1 hz2 _ ys.length (ys.map (Value.int .u8)) rfl own9 { data := #[] } rfl (by unfold maxLen; omega) (by omega) (by omega) ?_
  intro vA wA ownA gA _
  go_wp2
  go_ret2
  have own5 : wA.ownsRow w4.heap.size 5 1 vA (ys ++ bt { data := #[] }).length ((ys ++ bt { data := #[] }).map (Value.int .u8)) := by
    rw [bt_cells] at ownA
    rw [List.length_append, List.map_append, bt_len]
    exact ownA
  obtain ⟨A5, c5, rfl, hs5⟩ := own_slice own5
  have Bw9 : Below w.heap.size w w9 := BW.trans (B09.mono (by omega))
  exact ⟨A5, c5, rfl, hs5, Bw9.grown gA Bw9.size (fun q hq => by have := (own9.lt q hq).1; omega)⟩

set_option maxHeartbeats 1000000 in
theorem rput4_t (u s k h : Int) (t : ByteArray) (w : World) (hk : (k == 0) = false) (ht : (0 : Int) < (t.size : Int)) (ht6 : t.size ≤ 64) (hm : mayB u s k h 0 t.size = true) (hok : okAll [k, u, s, h, (t.size : Int)] = true) : Calls Tryd.prog 11 #[cv u s k h 0 t] w (PutPost w .u8 (pb [k, u, s, h, (t.size : Int)] ++ bt t) 0) := by
  obtain ⟨i0, hi, hz0, hz1, hz2⟩ := info_parts info5
  obtain ⟨i3, ji, jz0, jz1, jz2⟩ := info_parts info3x
  have HM : ∀ W, Hid (Calls Tryd.prog 13 #[cv u s k h 0 t] W (BoolPost W true)) := fun W => by have := rmay_any u s k h 0 t W; rw [hm] at this; exact this
  have HOK := Lib.hid hok
  have hpl : (pb [k, u, s, h, (t.size : Int)]).length ≤ 8 * 5 := pb_le _ hok
  have hz9 : ({ data := #[] } : ByteArray).size = 0 := rfl
  clear hm hok
  go_enter Tryd.func11, Tryd.ntmps11
  go_wp2_with fail
  have BW : Below w.heap.size w (w.alloc (.cells #[.int .i64 u, .int .i64 s, .int .i64 k, .int .i64 h, .int .i64 0, .string t] 23)) := (Below.refl _ _).alloc (Nat.le_refl _) _
  have Z0 : (w.alloc (.cells #[.int .i64 u, .int .i64 s, .int .i64 k, .int .i64 h, .int .i64 0, .string t] 23)).heap.size = w.heap.size + 1 := by simp
  have C0 := cb_new w u s k h 0 t
  generalize (w.alloc (.cells #[.int .i64 u, .int .i64 s, .int .i64 k, .int .i64 h, .int .i64 0, .string t] 23)) = W0 at *
  refine (HM W0).out.mono ?_
  rintro e w1 ⟨rfl, B1⟩
  have q1 := B1.size
  rw [Z0] at B1
  have q1' : w.heap.size < w1.heap.size := by omega
  obtain ⟨p0, p1, p2, p3, p4, p5⟩ := C0.on B1 (by omega)
  go_wp2_with (at_builtin; refine Hid.out ?_)
  unfold Hid
  clear p0 p1 p2 p3 p4 p5
  have own2 : (w1.alloc (.cells #[.int .i64 k] 3)).ownsRow (w.heap.size + 1) 3 1 (.slice (some ⟨w1.heap.size, 0, none⟩) 1 1) 1 ([k].map (Value.int .i64)) := row_own w1 _ [k] (by omega) (by simp)
  have B2 : Below (w.heap.size + 1) W0 (w1.alloc (.cells #[.int .i64 k] 3)) := B1.alloc (by omega) _
  have Z2 : (w1.alloc (.cells #[.int .i64 k] 3)).heap.size = w1.heap.size + 1 := by simp
  generalize w1.alloc (.cells #[.int .i64 k] 3) = w2 at *
  have S2 := row_sl w2 [u, s, h]
  rw [Z2] at S2
  refine wpList_app rfl (.tmp 18) (.tmp 25) 36 rfl (w.heap.size + 1) 3 i3 (.int .i64 0) 8 Tryd.underlying36 ji jz0 jz1 jz2 rfl _ 1 ([k].map (Value.int .i64)) rfl (own2.alloc _) (w1.heap.size + 1 + 1) .i64 (some ⟨w1.heap.size + 1, 0, none⟩) 3 [u, s, h] rfl S2 (by unfold maxLen; simp) (by simp) (by simp; omega) ?_
  intro v3 w3 own3' g3
  have own3 : w3.ownsRow (w.heap.size + 1) 3 1 v3 4 ([k, u, s, h].map (Value.int .i64)) := by simpa using own3'
  have B3 : Below (w.heap.size + 1) W0 w3 := (B2.alloc (by omega) (.cells #[.int .i64 u, .int .i64 s, .int .i64 h] 3)).grown g3 (by simp; omega) (fun q hq => ((own2.alloc (.cells #[.int .i64 u, .int .i64 s, .int .i64 h] 3)).lt q hq).1)
  have C3 := C0.on B3 (Nat.lt_succ_self _)
  clear own3' g3 own2 B2
  obtain ⟨A3, c3, rfl⟩ := own_form own3
  have z3 := B3.size
  obtain ⟨p30, p31, p32, p33, p34, p35⟩ := C3
  go_wp2_with (at_builtin; refine Hid.out ?_)
  unfold Hid
  clear p30 p31 p32 p33 p34 p35
  refine wpList_app rfl (.tmp 39) (.tmp 43) 36 rfl (w.heap.size + 1) 3 i3 (.int .i64 0) 8 Tryd.underlying36 ji jz0 jz1 jz2 rfl _ 4 ([k, u, s, h].map (Value.int .i64)) rfl (own3.alloc _) (w3.heap.size + 1) .i64 (some ⟨w3.heap.size, 0, none⟩) 1 [(t.size : Int)] rfl (row_sl w3 [(t.size : Int)]) (by unfold maxLen; simp) (by simp) (by simp; omega) ?_
  intro v4 w4 own4' g4
  have own4 : w4.ownsRow (w.heap.size + 1) 3 1 v4 5 ([k, u, s, h, (t.size : Int)].map (Value.int .i64)) := by simpa using own4'
  have B4 : Below (w.heap.size + 1) W0 w4 := (B3.alloc (by omega) (.cells #[.int .i64 (t.size : Int)] 3)).grown g4 (by simp; omega) (fun q hq => ((own3.alloc (.cells #[.int .i64 (t.size : Int)] 3)).lt q hq).1)
  have C4 := C0.on B4 (Nat.lt_succ_self _)
  clear own4' g4 own3 B3
  obtain ⟨A4, c4, rfl⟩ := own_form own4
  obtain ⟨p0, p1, p2, p3, p4, p5⟩ := C4
  go_wp2_with fail
  clear p0 p1 p2 p3 p4 p5
  have z4 := B4.size
  have S9 : Sl w4 w4.heap.size .i64 A4 [k, u, s, h, (t.size : Int)] := by
    obtain ⟨A9, c9, e9, S9, _⟩ := own_slice (xs := [k, u, s, h, (t.size : Int)]) own4
    cases e9
    exact S9
  refine (rputall_yes A4 c4 [k, u, s, h, (t.size : Int)] w4 (by simp) S9 HOK.out).mono ?_
  rintro e w9 ⟨v9, rfl, own9, B9⟩
  have q9 := B9.size
  have B09 : Below (w.heap.size + 1) W0 w9 := B4.trans (B9.mono (by omega))
  obtain ⟨p0, p1, p2, p3, p4, p5⟩ := C0.on B09 (by omega)
  generalize pb [k, u, s, h, (t.size : Int)] = ys at *
  obtain ⟨A9, c9, rfl⟩ := own_form own9
  clear B4 B9 S9 own4
  go_wp2_with (at_builtin; refine Hid.out ?_)
  unfold Hid
  refine Lib.wpList_append_own_string w9 rfl (.tmp 50) (.tmp 52) 25 9 rfl w4.heap.size 5 i0 Tryd.underlying25 Tryd.underlying9 hi hz0 hz1 hz2 _ ys.length (ys.map (Value.int .u8)) rfl own9 t rfl (by unfold maxLen; omega) (by omega) (by omega) ?_
  intro vA wA ownA gA _
  go_wp2
  go_ret2
  have own5 : wA.ownsRow w4.heap.size 5 1 vA (ys ++ bt t).length ((ys ++ bt t).map (Value.int .u8)) := by
    rw [bt_cells] at ownA
    rw [List.length_append, List.map_append, bt_len]
    exact ownA
  obtain ⟨A5, c5, rfl, hs5⟩ := own_slice own5
  have Bw9 : Below w.heap.size w w9 := BW.trans (B09.mono (by omega))
  exact ⟨A5, c5, rfl, hs5, Bw9.grown gA Bw9.size (fun q hq => by have := (own9.lt q hq).1; omega)⟩

set_option maxHeartbeats 1000000 in
theorem rput4_0 (u s k h : Int) (w : World) (hk : (k == 0) = false) (hm : mayB u s k h 0 0 = true) (hok : okAll [k, u, s, h] = true) : Calls Tryd.prog 11 #[cv u s k h 0 { data := #[] }] w (PutPost w .u8 (pb [k, u, s, h] ++ bt { data := #[] }) 0) := by
  obtain ⟨i0, hi, hz0, hz1, hz2⟩ := info_parts info5
  obtain ⟨i3, ji, jz0, jz1, jz2⟩ := info_parts info3x
  have HM : ∀ W, Hid (Calls Tryd.prog 13 #[cv u s k h 0 { data := #[] }] W (BoolPost W true)) := fun W => by have := rmay_any u s k h 0 { data := #[] } W; rw [show mayB u s k h 0 ({ data := #[] } : ByteArray).size = true from hm] at this; exact this
  have HOK := Lib.hid hok
  have hpl : (pb [k, u, s, h]).length ≤ 8 * 4 := pb_le _ hok
  have hz9 : ({ data := #[] } : ByteArray).size = 0 := rfl
  clear hm hok
  go_enter Tryd.func11, Tryd.ntmps11
  go_wp2_with fail
  have BW : Below w.heap.size w (w.alloc (.cells #[.int .i64 u, .int .i64 s, .int .i64 k, .int .i64 h, .int .i64 0, .string { data := #[] }] 23)) := (Below.refl _ _).alloc (Nat.le_refl _) _
  have Z0 : (w.alloc (.cells #[.int .i64 u, .int .i64 s, .int .i64 k, .int .i64 h, .int .i64 0, .string { data := #[] }] 23)).heap.size = w.heap.size + 1 := by simp
  have C0 := cb_new w u s k h 0 { data := #[] }
  generalize (w.alloc (.cells #[.int .i64 u, .int .i64 s, .int .i64 k, .int .i64 h, .int .i64 0, .string { data := #[] }] 23)) = W0 at *
  refine (HM W0).out.mono ?_
  rintro e w1 ⟨rfl, B1⟩
  have q1 := B1.size
  rw [Z0] at B1
  have q1' : w.heap.size < w1.heap.size := by omega
  obtain ⟨p0, p1, p2, p3, p4, p5⟩ := C0.on B1 (by omega)
  go_wp2_with (at_builtin; refine Hid.out ?_)
  unfold Hid
  clear p0 p1 p2 p3 p4 p5
  have own2 : (w1.alloc (.cells #[.int .i64 k] 3)).ownsRow (w.heap.size + 1) 3 1 (.slice (some ⟨w1.heap.size, 0, none⟩) 1 1) 1 ([k].map (Value.int .i64)) := row_own w1 _ [k] (by omega) (by simp)
  have B2 : Below (w.heap.size + 1) W0 (w1.alloc (.cells #[.int .i64 k] 3)) := B1.alloc (by omega) _
  have Z2 : (w1.alloc (.cells #[.int .i64 k] 3)).heap.size = w1.heap.size + 1 := by simp
  generalize w1.alloc (.cells #[.int .i64 k] 3) = w2 at *
  have S2 := row_sl w2 [u, s, h]
  rw [Z2] at S2
  refine wpList_app rfl (.tmp 18) (.tmp 25) 36 rfl (w.heap.size + 1) 3 i3 (.int .i64 0) 8 Tryd.underlying36 ji jz0 jz1 jz2 rfl _ 1 ([k].map (Value.int .i64)) rfl (own2.alloc _) (w1.heap.size + 1 + 1) .i64 (some ⟨w1.heap.size + 1, 0, none⟩) 3 [u, s, h] rfl S2 (by unfold maxLen; simp) (by simp) (by simp; omega) ?_
  intro v3 w3 own3' g3
  have own3 : w3.ownsRow (w.heap.size + 1) 3 1 v3 4 ([k, u, s, h].map (Value.int .i64)) := by simpa using own3'
  have B3 : Below (w.heap.size + 1) W0 w3 := (B2.alloc (by omega) (.cells #[.int .i64 u, .int .i64 s, .int .i64 h] 3)).grown g3 (by simp; omega) (fun q hq => ((own2.alloc (.cells #[.int .i64 u, .int .i64 s, .int .i64 h] 3)).lt q hq).1)
  have C3 := C0.on B3 (Nat.lt_succ_self _)
  clear own3' g3 own2 B2
  obtain ⟨A3, c3, rfl⟩ := own_form own3
  obtain ⟨p0, p1, p2, p3, p4, p5⟩ := C3
  go_wp2_with fail
  clear p0 p1 p2 p3 p4 p5
  have z3 := B3.size
  have S9 : Sl w3 w3.heap.size .i64 A3 [k, u, s, h] := by
    obtain ⟨A9, c9, e9, S9, _⟩ := own_slice (xs := [k, u, s, h]) own3
    cases e9
    exact S9
  refine (rputall_yes A3 c3 [k, u, s, h] w3 (by simp) S9 HOK.out).mono ?_
  rintro e w9 ⟨v9, rfl, own9, B9⟩
  have q9 := B9.size
  have B09 : Below (w.heap.size + 1) W0 w9 := B3.trans (B9.mono (by omega))
  obtain ⟨p0, p1, p2, p3, p4, p5⟩ := C0.on B09 (by omega)
  generalize pb [k, u, s, h] = ys at *
  obtain ⟨A9, c9, rfl⟩ := own_form own9
  clear B3 B9 S9 own3
  go_wp2_with (at_builtin; refine Hid.out ?_)
  unfold Hid
  refine Lib.wpList_append_own_string w9 rfl (.tmp 50) (.tmp 52) 25 9 rfl w3.heap.size 5 i0 Tryd.underlying25 Tryd.underlying9 hi hz0 hz1 hz2 _ ys.length (ys.map (Value.int .u8)) rfl own9 { data := #[] } rfl (by unfold maxLen; omega) (by omega) (by omega) ?_
  intro vA wA ownA gA _
  go_wp2
  go_ret2
  have own5 : wA.ownsRow w3.heap.size 5 1 vA (ys ++ bt { data := #[] }).length ((ys ++ bt { data := #[] }).map (Value.int .u8)) := by
    rw [bt_cells] at ownA
    rw [List.length_append, List.map_append, bt_len]
    exact ownA
  obtain ⟨A5, c5, rfl, hs5⟩ := own_slice own5
  have Bw9 : Below w.heap.size w w9 := BW.trans (B09.mono (by omega))
  exact ⟨A5, c5, rfl, hs5, Bw9.grown gA Bw9.size (fun q hq => by have := (own9.lt q hq).1; omega)⟩

theorem rput4_any (u s k h n : Int) (t : ByteArray) (w : World) (r : List Int × Int) (hr : cpu u s k h n t = r) : Calls Tryd.prog 11 #[cv u s k h n t] w (PutPost w .u8 r.1 r.2) := by
  subst hr
  cases hm : mayB u s k h n t.size
  · rw [cpu_no hm]; exact rput4_no u s k h n t w hm
  · rw [cpu_yes hm]
    obtain ⟨hok, hm64, _⟩ := may_ok hm
    have hc := may_cases hm
    show Calls Tryd.prog 11 #[cv u s k h n t] w (PutPost w .u8 (pb (nl u s k h n t.size) ++ bt t) 0)
    by_cases hk : k = 0
    · subst hk
      rcases hc with ⟨_, rfl, rfl, rfl, rfl, hz⟩ | ⟨h1, _⟩
      · obtain rfl := tl_eq hz
        rw [nl_nop]; rw [nl_nop] at hok; exact rput4_nop w hm hok
      · omega
    have ek : (k == 0) = false := by rw [beq_eq_false_iff_ne]; exact hk
    by_cases hn : n = 0
    · subst hn
      by_cases hz : t.size = 0
      · obtain rfl := tl_eq hz
        rw [hz] at hok ⊢
        rw [nl_0 hk] at hok ⊢; exact rput4_0 u s k h w ek hm hok
      · rw [nl_t hk hz] at hok ⊢; exact rput4_t u s k h t w ek (by omega) hm64 hm hok
    · have en : (n == 0) = false := by rw [beq_eq_false_iff_ne]; exact hn
      by_cases hz : t.size = 0
      · obtain rfl := tl_eq hz
        rw [hz] at hok ⊢
        rw [nl_n hk hn] at hok ⊢; exact rput4_n u s k h n w ek en hm hok
      · rw [nl_nt hk hn hz] at hok ⊢; exact rput4_nt u s k h n t w ek en (by omega) hm64 hm hok

end Go.Proofs.YteajbcngimccmaaDoor
