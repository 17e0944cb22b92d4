/-
  The walk of command.numbers: all that a command has ahead of its text, as 'nl' says. No conditions.
-/
import Derived.Test.YteajbcngimccmaaDoorMay
import Derived.Lib.AppendStr
namespace Go.Proofs.YteajbcngimccmaaDoor
open Go.RowKit

/-- A command in a box of the call's own. -/
def Cb (w : World) (B : Nat) (u s k h n : Int) (t : ByteArray) : Prop :=
  w.cell? ⟨B, 0, none⟩ = some (.int .i64 u) ∧ w.cell? ⟨B, 1, none⟩ = some (.int .i64 s) ∧ w.cell? ⟨B, 2, none⟩ = some (.int .i64 k) ∧ w.cell? ⟨B, 3, none⟩ = some (.int .i64 h) ∧ w.cell? ⟨B, 4, none⟩ = some (.int .i64 n) ∧ w.cell? ⟨B, 5, none⟩ = some (.string t)
theorem cb_new (w : World) (u s k h n : Int) (t : ByteArray) : Cb (w.alloc (.cells #[.int .i64 u, .int .i64 s, .int .i64 k, .int .i64 h, .int .i64 n, .string t] 23)) w.heap.size u s k h n t := ⟨by simp, by simp, by simp, by simp, by simp, by simp⟩
theorem Cb.on {w w' : World} {B D : Nat} {u s k h n : Int} {t : ByteArray} (hc : Cb w B u s k h n t) (hb : Below D w w') (hB : B < D) : Cb w' B u s k h n t := by
  obtain ⟨c0, c1, c2, c3, c4, c5⟩ := hc
  exact ⟨(hb.cell (p := ⟨B, 0, none⟩) hB).trans c0, (hb.cell (p := ⟨B, 1, none⟩) hB).trans c1, (hb.cell (p := ⟨B, 2, none⟩) hB).trans c2, (hb.cell (p := ⟨B, 3, none⟩) hB).trans c3, (hb.cell (p := ⟨B, 4, none⟩) hB).trans c4, (hb.cell (p := ⟨B, 5, none⟩) hB).trans c5⟩

theorem row_sl (W : World) (l : List Int) : Sl (W.alloc (.cells (l.map (Value.int .i64)).toArray 3)) (W.heap.size + 1) .i64 (some ⟨W.heap.size, 0, none⟩) l :=
  .inr ⟨W.heap.size, 0, rfl, by omega, fun j z hz => by
    rw [Nat.zero_add]
    have : (W.alloc (.cells (l.map (Value.int .i64)).toArray 3)).heap[W.heap.size]? = some (.cells (l.map (Value.int .i64)).toArray 3) := heap_alloc_new W _
    rw [cell_of_row _ _ j _ 3 _ this]
    simp [hz]⟩
theorem row_own (W : World) (base : Nat) (l : List Int) (hb : base ≤ W.heap.size) (hl : l.length ≤ 100) : (W.alloc (.cells (l.map (Value.int .i64)).toArray 3)).ownsRow base 3 1 (.slice (some ⟨W.heap.size, 0, none⟩) l.length l.length) l.length (l.map (Value.int .i64)) :=
  ⟨by simp, .inr ⟨W.heap.size, l.length, _, rfl, hb, heap_alloc_new W _, Nat.le_refl _, by unfold maxLen; omega, by simp, by rw [List.take_of_length_le (by simp)]⟩⟩

def NumsPost (w : World) (l : List Int) (e : Ending) (w' : World) : Prop :=
  ∃ v, e = .returned v ∧ w'.ownsRow w.heap.size 3 1 v l.length (l.map (Value.int .i64)) ∧ Below w.heap.size w w'

theorem own_mono {w : World} {b b' : Nat} {e : TypeId} {v : Value} {n : Nat} {xs : List Value} (h : w.ownsRow b e 1 v n xs) (hb : b' ≤ b) : w.ownsRow b' e 1 v n xs := by
  refine ⟨h.1, ?_⟩
  rcases h.2 with h0 | ⟨g, cap, cur, e1, e2, r⟩
  · exact .inl h0
  · exact .inr ⟨g, cap, cur, e1, Nat.le_trans hb e2, r⟩

theorem nums_nop (u s h n : Int) (t : ByteArray) (w : World) : Calls Tryd.prog 19 #[cv u s 0 h n t] w (NumsPost w [0]) := by
  go_enter Tryd.func19, Tryd.ntmps19
  go_wp2
  go_ret
  have Z0 : (w.alloc (.cells #[.int .i64 u, .int .i64 s, .int .i64 0, .int .i64 h, .int .i64 n, .string t] 23)).heap.size = w.heap.size + 1 := by simp
  have O := row_own (w.alloc (.cells #[.int .i64 u, .int .i64 s, .int .i64 0, .int .i64 h, .int .i64 n, .string t] 23)) w.heap.size [0] (by omega) (by simp)
  rw [Z0] at O
  exact ⟨_, rfl, O, ((Below.refl _ _).alloc (Nat.le_refl _) _).alloc (by omega) _⟩

theorem tl_ne {t : ByteArray} (h : t.size ≠ 0) : ¬ t.toList = [] := by
  intro e
  rw [ByteArray.toList_eq] at e
  exact h (by show t.data.size = 0; rw [← Array.length_toList, e]; rfl)
theorem tl_eq {t : ByteArray} (h : t.size = 0) : t = { data := #[] } := by
  obtain ⟨d⟩ := t
  have : d.size = 0 := h
  rw [Array.eq_empty_of_size_eq_zero this]
theorem info3x : (Tryd.prog.info? 3).map (fun i => (i.zero, i.size, i.bytes)) = some (some (.int .i64 0), 1, 8) := by kernel_rfl

set_option maxHeartbeats 1000000 in
theorem nums_nt (u s k h n : Int) (t : ByteArray) (w : World) (hk : (k == 0) = false) (hn : (n == 0) = false) (ht : t.size ≠ 0) : Calls Tryd.prog 19 #[cv u s k h n t] w (NumsPost w [k, u, s, h, n, (t.size : Int)]) := by
  obtain ⟨i0, hi, hz0, hz1, hz2⟩ := info_parts info3x
  have ht1 : (t.toList == []) = false := by rw [beq_eq_false_iff_ne]; exact tl_ne ht
  have ht2 : ¬ t.toList = [] := tl_ne ht
  clear ht
  go_enter Tryd.func19, Tryd.ntmps19
  go_wp2_with (at_builtin; refine Hid.out ?_)
  unfold Hid
  have BW : Below w.heap.size w (w.alloc (.cells #[.int .i64 u, .int .i64 s, .int .i64 k, .int .i64 h, .int .i64 n, .string t] 23)) := (Below.refl _ _).alloc (Nat.le_refl _) _
  have C0 := cb_new w u s k h n t
  have Z0 : (w.alloc (.cells #[.int .i64 u, .int .i64 s, .int .i64 k, .int .i64 h, .int .i64 n, .string t] 23)).heap.size = w.heap.size + 1 := by simp
  generalize w.alloc (.cells #[.int .i64 u, .int .i64 s, .int .i64 k, .int .i64 h, .int .i64 n, .string t] 23) = W0 at *
  have own1 : (W0.alloc (.cells #[.int .i64 k] 3)).ownsRow (w.heap.size + 1) 3 1 (.slice (some ⟨w.heap.size + 1, 0, none⟩) 1 1) 1 ([k].map (Value.int .i64)) := by rw [← Z0]; exact row_own W0 _ [k] (Nat.le_refl _) (by simp)
  have B1 : Below (w.heap.size + 1) W0 (W0.alloc (.cells #[.int .i64 k] 3)) := (Below.refl _ _).alloc (by omega) _
  have Z1 : (W0.alloc (.cells #[.int .i64 k] 3)).heap.size = w.heap.size + 2 := by simp [Z0]
  generalize W0.alloc (.cells #[.int .i64 k] 3) = w1 at *
  have S1 := row_sl w1 [u, s, h]
  rw [Z1] at S1
  refine wpList_app rfl (.tmp 11) (.tmp 18) 36 rfl (w.heap.size + 1) 3 i0 (.int .i64 0) 8 Tryd.underlying36 hi hz0 hz1 hz2 rfl _ 1 ([k].map (Value.int .i64)) rfl (own1.alloc _) (w.heap.size + 3) .i64 (some ⟨w.heap.size + 2, 0, none⟩) 3 [u, s, h] rfl S1 (by unfold maxLen; simp) (by simp) (by simp; omega) ?_
  intro v2 w2 own2' g2
  have own2 : w2.ownsRow (w.heap.size + 1) 3 1 v2 4 ([k, u, s, h].map (Value.int .i64)) := by simpa using own2'
  have B2 : Below (w.heap.size + 1) W0 w2 := (B1.alloc (by omega) (.cells #[.int .i64 u, .int .i64 s, .int .i64 h] 3)).grown g2 (by simp; omega) (fun q hq => ((own1.alloc (.cells #[.int .i64 u, .int .i64 s, .int .i64 h] 3)).lt q hq).1)
  have C2 := C0.on B2 (Nat.lt_succ_self _)
  clear own2' g2 own1 B1 S1 Z1
  obtain ⟨A2, c2, rfl⟩ := own_form own2
  have z2 := B2.size
  obtain ⟨p20, p21, p22, p23, p24, p25⟩ := C2
  go_wp2_with (at_builtin; refine Hid.out ?_)
  unfold Hid
  clear p20 p21 p22 p23 p24 p25
  refine wpList_app rfl (.tmp 23) (.tmp 26) 36 rfl (w.heap.size + 1) 3 i0 (.int .i64 0) 8 Tryd.underlying36 hi hz0 hz1 hz2 rfl _ 4 ([k, u, s, h].map (Value.int .i64)) rfl (own2.alloc _) (w2.heap.size + 1) .i64 (some ⟨w2.heap.size, 0, none⟩) 1 [n] rfl (row_sl w2 [n]) (by unfold maxLen; simp) (by simp) (by simp; omega) ?_
  intro v3 w3 own3' g3
  have own3 : w3.ownsRow (w.heap.size + 1) 3 1 v3 5 ([k, u, s, h, n].map (Value.int .i64)) := by simpa using own3'
  have B3 : Below (w.heap.size + 1) W0 w3 := (B2.alloc (by omega) (.cells #[.int .i64 n] 3)).grown g3 (by simp; omega) (fun q hq => ((own2.alloc (.cells #[.int .i64 n] 3)).lt q hq).1)
  have C3 := C0.on B3 (Nat.lt_succ_self _)
  clear own3' g3 own2 B2
  obtain ⟨A3, c3, rfl⟩ := own_form own3
  have z3 := B3.size
  obtain ⟨p30, p31, p32, p33, p34, p35⟩ := C3
  go_wp2_with (at_builtin; refine Hid.out ?_)
  unfold Hid
  clear p30 p31 p32 p33 p34 p35
  refine wpList_app rfl (.tmp 31) (.tmp 35) 36 rfl (w.heap.size + 1) 3 i0 (.int .i64 0) 8 Tryd.underlying36 hi hz0 hz1 hz2 rfl _ 5 ([k, u, s, h, n].map (Value.int .i64)) rfl (own3.alloc _) (w3.heap.size + 1) .i64 (some ⟨w3.heap.size, 0, none⟩) 1 [(t.size : Int)] rfl (row_sl w3 [(t.size : Int)]) (by unfold maxLen; simp) (by simp) (by simp; omega) ?_
  intro v4 w4 own4' g4
  have own4 : w4.ownsRow (w.heap.size + 1) 3 1 v4 6 ([k, u, s, h, n, (t.size : Int)].map (Value.int .i64)) := by simpa using own4'
  have B4 : Below (w.heap.size + 1) W0 w4 := (B3.alloc (by omega) (.cells #[.int .i64 (t.size : Int)] 3)).grown g4 (by simp; omega) (fun q hq => ((own3.alloc (.cells #[.int .i64 (t.size : Int)] 3)).lt q hq).1)
  have C4 := C0.on B4 (Nat.lt_succ_self _)
  clear own4' g4 own3 B3
  obtain ⟨A4, c4, rfl⟩ := own_form own4
  obtain ⟨p40, p41, p42, p43, p44, p45⟩ := C4
  go_wp2
  go_ret
  exact ⟨_, rfl, own_mono own4 (Nat.le_succ _), BW.trans (B4.mono (Nat.le_succ _))⟩

set_option maxHeartbeats 1000000 in
theorem nums_n (u s k h n : Int) (t : ByteArray) (w : World) (hk : (k == 0) = false) (hn : (n == 0) = false) (ht : t.size = 0) : Calls Tryd.prog 19 #[cv u s k h n t] w (NumsPost w [k, u, s, h, n]) := by
  obtain ⟨i0, hi, hz0, hz1, hz2⟩ := info_parts info3x
  obtain rfl : t = { data := #[] } := tl_eq ht
  go_enter Tryd.func19, Tryd.ntmps19
  go_wp2_with (at_builtin; refine Hid.out ?_)
  unfold Hid
  have BW : Below w.heap.size w (w.alloc (.cells #[.int .i64 u, .int .i64 s, .int .i64 k, .int .i64 h, .int .i64 n, .string { data := #[] }] 23)) := (Below.refl _ _).alloc (Nat.le_refl _) _
  have C0 := cb_new w u s k h n { data := #[] }
  have Z0 : (w.alloc (.cells #[.int .i64 u, .int .i64 s, .int .i64 k, .int .i64 h, .int .i64 n, .string { data := #[] }] 23)).heap.size = w.heap.size + 1 := by simp
  generalize w.alloc (.cells #[.int .i64 u, .int .i64 s, .int .i64 k, .int .i64 h, .int .i64 n, .string { data := #[] }] 23) = W0 at *
  have own1 : (W0.alloc (.cells #[.int .i64 k] 3)).ownsRow (w.heap.size + 1) 3 1 (.slice (some ⟨w.heap.size + 1, 0, none⟩) 1 1) 1 ([k].map (Value.int .i64)) := by rw [← Z0]; exact row_own W0 _ [k] (Nat.le_refl _) (by simp)
  have B1 : Below (w.heap.size + 1) W0 (W0.alloc (.cells #[.int .i64 k] 3)) := (Below.refl _ _).alloc (by omega) _
  have Z1 : (W0.alloc (.cells #[.int .i64 k] 3)).heap.size = w.heap.size + 2 := by simp [Z0]
  generalize W0.alloc (.cells #[.int .i64 k] 3) = w1 at *
  have S1 := row_sl w1 [u, s, h]
  rw [Z1] at S1
  refine wpList_app rfl (.tmp 11) (.tmp 18) 36 rfl (w.heap.size + 1) 3 i0 (.int .i64 0) 8 Tryd.underlying36 hi hz0 hz1 hz2 rfl _ 1 ([k].map (Value.int .i64)) rfl (own1.alloc _) (w.heap.size + 3) .i64 (some ⟨w.heap.size + 2, 0, none⟩) 3 [u, s, h] rfl S1 (by unfold maxLen; simp) (by simp) (by simp; omega) ?_
  intro v2 w2 own2' g2
  have own2 : w2.ownsRow (w.heap.size + 1) 3 1 v2 4 ([k, u, s, h].map (Value.int .i64)) := by simpa using own2'
  have B2 : Below (w.heap.size + 1) W0 w2 := (B1.alloc (by omega) (.cells #[.int .i64 u, .int .i64 s, .int .i64 h] 3)).grown g2 (by simp; omega) (fun q hq => ((own1.alloc (.cells #[.int .i64 u, .int .i64 s, .int .i64 h] 3)).lt q hq).1)
  have C2 := C0.on B2 (Nat.lt_succ_self _)
  clear own2' g2 own1 B1 S1 Z1
  obtain ⟨A2, c2, rfl⟩ := own_form own2
  have z2 := B2.size
  obtain ⟨p20, p21, p22, p23, p24, p25⟩ := C2
  go_wp2_with (at_builtin; refine Hid.out ?_)
  unfold Hid
  clear p20 p21 p22 p23 p24 p25
  refine wpList_app rfl (.tmp 23) (.tmp 26) 36 rfl (w.heap.size + 1) 3 i0 (.int .i64 0) 8 Tryd.underlying36 hi hz0 hz1 hz2 rfl _ 4 ([k, u, s, h].map (Value.int .i64)) rfl (own2.alloc _) (w2.heap.size + 1) .i64 (some ⟨w2.heap.size, 0, none⟩) 1 [n] rfl (row_sl w2 [n]) (by unfold maxLen; simp) (by simp) (by simp; omega) ?_
  intro v3 w3 own3' g3
  have own3 : w3.ownsRow (w.heap.size + 1) 3 1 v3 5 ([k, u, s, h, n].map (Value.int .i64)) := by simpa using own3'
  have B3 : Below (w.heap.size + 1) W0 w3 := (B2.alloc (by omega) (.cells #[.int .i64 n] 3)).grown g3 (by simp; omega) (fun q hq => ((own2.alloc (.cells #[.int .i64 n] 3)).lt q hq).1)
  have C3 := C0.on B3 (Nat.lt_succ_self _)
  clear own3' g3 own2 B2
  obtain ⟨A3, c3, rfl⟩ := own_form own3
  obtain ⟨p30, p31, p32, p33, p34, p35⟩ := C3
  go_wp2
  go_ret
  exact ⟨_, rfl, own_mono own3 (Nat.le_succ _), BW.trans (B3.mono (Nat.le_succ _))⟩

set_option maxHeartbeats 1000000 in
theorem nums_t (u s k h : Int) (t : ByteArray) (w : World) (hk : (k == 0) = false) (ht : t.size ≠ 0) : Calls Tryd.prog 19 #[cv u s k h 0 t] w (NumsPost w [k, u, s, h, (t.size : Int)]) := by
  obtain ⟨i0, hi, hz0, hz1, hz2⟩ := info_parts info3x
  have ht1 : (t.toList == []) = false := by rw [beq_eq_false_iff_ne]; exact tl_ne ht
  have ht2 : ¬ t.toList = [] := tl_ne ht
  clear ht
  go_enter Tryd.func19, Tryd.ntmps19
  go_wp2_with (at_builtin; refine Hid.out ?_)
  unfold Hid
  have BW : Below w.heap.size w (w.alloc (.cells #[.int .i64 u, .int .i64 s, .int .i64 k, .int .i64 h, .int .i64 0, .string t] 23)) := (Below.refl _ _).alloc (Nat.le_refl _) _
  have C0 := cb_new w u s k h 0 t
  have Z0 : (w.alloc (.cells #[.int .i64 u, .int .i64 s, .int .i64 k, .int .i64 h, .int .i64 0, .string t] 23)).heap.size = w.heap.size + 1 := by simp
  generalize w.alloc (.cells #[.int .i64 u, .int .i64 s, .int .i64 k, .int .i64 h, .int .i64 0, .string t] 23) = W0 at *
  have own1 : (W0.alloc (.cells #[.int .i64 k] 3)).ownsRow (w.heap.size + 1) 3 1 (.slice (some ⟨w.heap.size + 1, 0, none⟩) 1 1) 1 ([k].map (Value.int .i64)) := by rw [← Z0]; exact row_own W0 _ [k] (Nat.le_refl _) (by simp)
  have B1 : Below (w.heap.size + 1) W0 (W0.alloc (.cells #[.int .i64 k] 3)) := (Below.refl _ _).alloc (by omega) _
  have Z1 : (W0.alloc (.cells #[.int .i64 k] 3)).heap.size = w.heap.size + 2 := by simp [Z0]
  generalize W0.alloc (.cells #[.int .i64 k] 3) = w1 at *
  have S1 := row_sl w1 [u, s, h]
  rw [Z1] at S1
  refine wpList_app rfl (.tmp 11) (.tmp 18) 36 rfl (w.heap.size + 1) 3 i0 (.int .i64 0) 8 Tryd.underlying36 hi hz0 hz1 hz2 rfl _ 1 ([k].map (Value.int .i64)) rfl (own1.alloc _) (w.heap.size + 3) .i64 (some ⟨w.heap.size + 2, 0, none⟩) 3 [u, s, h] rfl S1 (by unfold maxLen; simp) (by simp) (by simp; omega) ?_
  intro v2 w2 own2' g2
  have own2 : w2.ownsRow (w.heap.size + 1) 3 1 v2 4 ([k, u, s, h].map (Value.int .i64)) := by simpa using own2'
  have B2 : Below (w.heap.size + 1) W0 w2 := (B1.alloc (by omega) (.cells #[.int .i64 u, .int .i64 s, .int .i64 h] 3)).grown g2 (by simp; omega) (fun q hq => ((own1.alloc (.cells #[.int .i64 u, .int .i64 s, .int .i64 h] 3)).lt q hq).1)
  have C2 := C0.on B2 (Nat.lt_succ_self _)
  clear own2' g2 own1 B1 S1 Z1
  obtain ⟨A2, c2, rfl⟩ := own_form own2
  have z2 := B2.size
  obtain ⟨p20, p21, p22, p23, p24, p25⟩ := C2
  go_wp2_with (at_builtin; refine Hid.out ?_)
  unfold Hid
  clear p20 p21 p22 p23 p24 p25
  refine wpList_app rfl (.tmp 31) (.tmp 35) 36 rfl (w.heap.size + 1) 3 i0 (.int .i64 0) 8 Tryd.underlying36 hi hz0 hz1 hz2 rfl _ 4 ([k, u, s, h].map (Value.int .i64)) rfl (own2.alloc _) (w2.heap.size + 1) .i64 (some ⟨w2.heap.size, 0, none⟩) 1 [(t.size : Int)] rfl (row_sl w2 [(t.size : Int)]) (by unfold maxLen; simp) (by simp) (by simp; omega) ?_
  intro v3 w3 own3' g3
  have own3 : w3.ownsRow (w.heap.size + 1) 3 1 v3 5 ([k, u, s, h, (t.size : Int)].map (Value.int .i64)) := by simpa using own3'
  have B3 : Below (w.heap.size + 1) W0 w3 := (B2.alloc (by omega) (.cells #[.int .i64 (t.size : Int)] 3)).grown g3 (by simp; omega) (fun q hq => ((own2.alloc (.cells #[.int .i64 (t.size : Int)] 3)).lt q hq).1)
  have C3 := C0.on B3 (Nat.lt_succ_self _)
  clear own3' g3 own2 B2
  obtain ⟨A3, c3, rfl⟩ := own_form own3
  obtain ⟨p30, p31, p32, p33, p34, p35⟩ := C3
  go_wp2
  go_ret
  exact ⟨_, rfl, own_mono own3 (Nat.le_succ _), BW.trans (B3.mono (Nat.le_succ _))⟩

set_option maxHeartbeats 1000000 in
theorem nums_0 (u s k h : Int) (t : ByteArray) (w : World) (hk : (k == 0) = false) (ht : t.size = 0) : Calls Tryd.prog 19 #[cv u s k h 0 t] w (NumsPost w [k, u, s, h]) := by
  obtain ⟨i0, hi, hz0, hz1, hz2⟩ := info_parts info3x
  obtain rfl : t = { data := #[] } := tl_eq ht
  go_enter Tryd.func19, Tryd.ntmps19
  go_wp2_with (at_builtin; refine Hid.out ?_)
  unfold Hid
  have BW : Below w.heap.size w (w.alloc (.cells #[.int .i64 u, .int .i64 s, .int .i64 k, .int .i64 h, .int .i64 0, .string { data := #[] }] 23)) := (Below.refl _ _).alloc (Nat.le_refl _) _
  have C0 := cb_new w u s k h 0 { data := #[] }
  have Z0 : (w.alloc (.cells #[.int .i64 u, .int .i64 s, .int .i64 k, .int .i64 h, .int .i64 0, .string { data := #[] }] 23)).heap.size = w.heap.size + 1 := by simp
  generalize w.alloc (.cells #[.int .i64 u, .int .i64 s, .int .i64 k, .int .i64 h, .int .i64 0, .string { data := #[] }] 23) = W0 at *
  have own1 : (W0.alloc (.cells #[.int .i64 k] 3)).ownsRow (w.heap.size + 1) 3 1 (.slice (some ⟨w.heap.size + 1, 0, none⟩) 1 1) 1 ([k].map (Value.int .i64)) := by rw [← Z0]; exact row_own W0 _ [k] (Nat.le_refl _) (by simp)
  have B1 : Below (w.heap.size + 1) W0 (W0.alloc (.cells #[.int .i64 k] 3)) := (Below.refl _ _).alloc (by omega) _
  have Z1 : (W0.alloc (.cells #[.int .i64 k] 3)).heap.size = w.heap.size + 2 := by simp [Z0]
  generalize W0.alloc (.cells #[.int .i64 k] 3) = w1 at *
  have S1 := row_sl w1 [u, s, h]
  rw [Z1] at S1
  refine wpList_app rfl (.tmp 11) (.tmp 18) 36 rfl (w.heap.size + 1) 3 i0 (.int .i64 0) 8 Tryd.underlying36 hi hz0 hz1 hz2 rfl _ 1 ([k].map (Value.int .i64)) rfl (own1.alloc _) (w.heap.size + 3) .i64 (some ⟨w.heap.size + 2, 0, none⟩) 3 [u, s, h] rfl S1 (by unfold maxLen; simp) (by simp) (by simp; omega) ?_
  intro v2 w2 own2' g2
  have own2 : w2.ownsRow (w.heap.size + 1) 3 1 v2 4 ([k, u, s, h].map (Value.int .i64)) := by simpa using own2'
  have B2 : Below (w.heap.size + 1) W0 w2 := (B1.alloc (by omega) (.cells #[.int .i64 u, .int .i64 s, .int .i64 h] 3)).grown g2 (by simp; omega) (fun q hq => ((own1.alloc (.cells #[.int .i64 u, .int .i64 s, .int .i64 h] 3)).lt q hq).1)
  have C2 := C0.on B2 (Nat.lt_succ_self _)
  clear own2' g2 own1 B1 S1 Z1
  obtain ⟨A2, c2, rfl⟩ := own_form own2
  obtain ⟨p20, p21, p22, p23, p24, p25⟩ := C2
  go_wp2
  go_ret
  exact ⟨_, rfl, own_mono own2 (Nat.le_succ _), BW.trans (B2.mono (Nat.le_succ _))⟩

/-- The numbers ahead of a command's text. -/
def nl (u s k h n : Int) (m : Nat) : List Int := if k = 0 then [0] else [k, u, s, h] ++ ((if n = 0 then [] else [n]) ++ (if m = 0 then [] else [(m : Int)]))

theorem nl_nop (u s h n : Int) (m : Nat) : nl u s 0 h n m = [0] := by rw [nl, if_pos rfl]
theorem nl_nt {u s k h n : Int} {m : Nat} (hk : k ≠ 0) (hn : n ≠ 0) (hm : m ≠ 0) : nl u s k h n m = [k, u, s, h, n, (m : Int)] := by rw [nl, if_neg hk, if_neg hn, if_neg hm]; rfl
theorem nl_n {u s k h n : Int} (hk : k ≠ 0) (hn : n ≠ 0) : nl u s k h n 0 = [k, u, s, h, n] := by rw [nl, if_neg hk, if_neg hn, if_pos rfl]; rfl
theorem nl_t {u s k h : Int} {m : Nat} (hk : k ≠ 0) (hm : m ≠ 0) : nl u s k h 0 m = [k, u, s, h, (m : Int)] := by rw [nl, if_neg hk, if_pos rfl, if_neg hm]; rfl
theorem nl_0 {u s k h : Int} (hk : k ≠ 0) : nl u s k h 0 0 = [k, u, s, h] := by rw [nl, if_neg hk, if_pos rfl, if_pos rfl]; rfl

theorem nums_any (u s k h n : Int) (t : ByteArray) (w : World) : Calls Tryd.prog 19 #[cv u s k h n t] w (NumsPost w (nl u s k h n t.size)) := by
  by_cases hk : k = 0
  · subst hk; rw [nl_nop]; exact nums_nop u s h n t w
  have ek : (k == 0) = false := by rw [beq_eq_false_iff_ne]; exact hk
  by_cases hn : n = 0
  · subst hn
    by_cases hm : t.size = 0
    · rw [hm, nl_0 hk]; exact nums_0 u s k h t w ek hm
    · rw [nl_t hk hm]; exact nums_t u s k h t w ek hm
  · have en : (n == 0) = false := by rw [beq_eq_false_iff_ne]; exact hn
    by_cases hm : t.size = 0
    · rw [hm, nl_n hk hn]; exact nums_n u s k h n t w ek en hm
    · rw [nl_nt hk hn hm]; exact nums_nt u s k h n t w ek en hm

end Go.Proofs.YteajbcngimccmaaDoor
