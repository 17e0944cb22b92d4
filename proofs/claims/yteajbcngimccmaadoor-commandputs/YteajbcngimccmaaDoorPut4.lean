/-
  The walk of command.Put: the bytes of a command, or the error that refuses it. Conditions: the table of what kinds need reads as its initialiser lays it.
-/
import Derived.Test.YteajbcngimccmaaDoorNums
namespace Go.Proofs.YteajbcngimccmaaDoor
open Go.RowKit

/-- The bytes of a text. -/
def bt (t : ByteArray) : List Int := t.data.toList.map fun b => (b.toNat : Int)
theorem bt_len (t : ByteArray) : (bt t).length = t.size := by rw [bt, List.length_map, Array.length_toList]; rfl
theorem bt_cells (t : ByteArray) : Lib.strCells t = (bt t).map (Value.int .u8) := by simp [Lib.strCells, bt]
theorem bt_byte (t : ByteArray) : ∀ x ∈ bt t, 0 ≤ x ∧ x ≤ 255 := by
  intro x hx
  obtain ⟨b, _, rfl⟩ := List.mem_map.1 hx
  have := b.toNat_lt
  omega

/-- The bytes of a command. -/
def cbs (u s k h n : Int) (t : ByteArray) : List Int := pb (nl u s k h n t.size) ++ bt t
/-- What Put answers: the bytes, and the error. -/
def cpu (u s k h n : Int) (t : ByteArray) : List Int × Int := if mayB u s k h n t.size then (cbs u s k h n t, 0) else ([], 1)
theorem cpu_yes {u s k h n : Int} {t : ByteArray} (h1 : mayB u s k h n t.size = true) : cpu u s k h n t = (cbs u s k h n t, 0) := by rw [cpu, if_pos h1]
theorem cpu_no {u s k h n : Int} {t : ByteArray} (h1 : mayB u s k h n t.size = false) : cpu u s k h n t = ([], 1) := by rw [cpu, if_neg (by rw [h1]; decide)]

/-- What may be, told by its bounds. -/
theorem may_cases {u s k h n : Int} {m : Nat} (hm : mayB u s k h n m = true) : (k = 0 ∧ u = 0 ∧ s = 0 ∧ h = 0 ∧ n = 0 ∧ m = 0) ∨
    ((1 ≤ k ∧ k < 8) ∧ (1 ≤ u ∧ u ≤ 1048576) ∧ (1 ≤ s ∧ s ≤ 1073741824) ∧ (1 ≤ h ∧ h ≤ 1048576) ∧ ((ndN k = true ∧ 1 ≤ n ∧ n ≤ 1073741824) ∨ (ndN k = false ∧ n = 0)) ∧ ((ndT k = true ∧ 1 ≤ m ∧ m ≤ 64) ∨ (ndT k = false ∧ m = 0))) := by
  by_cases hk : k = 0
  · subst hk
    rw [mayB, if_pos rfl, decide_eq_true_eq] at hm
    exact .inl ⟨rfl, hm⟩
  · rw [mayB, if_neg hk] at hm
    simp only [Bool.and_eq_true, decide_eq_true_eq] at hm
    obtain ⟨h1, h2, h3, h4, h5, h6⟩ := hm
    refine .inr ⟨h1, by simpa [fitB] using h2, by simpa [fitB] using h3, by simpa [fitB] using h4, ?_, ?_⟩
    · cases hq : ndN k
      · rw [hq] at h5; exact .inr ⟨rfl, by simpa [fitB] using h5⟩
      · rw [hq] at h5; exact .inl ⟨rfl, by simpa [fitB] using h5⟩
    · cases hq : ndT k
      · rw [hq] at h6; exact .inr ⟨rfl, by simpa [fitB] using h6⟩
      · rw [hq] at h6
        have : 1 ≤ (m : Int) ∧ (m : Int) ≤ 64 := by simpa [fitB] using h6
        exact .inl ⟨rfl, by omega, by omega⟩

theorem may_ok {u s k h n : Int} {m : Nat} (hm : mayB u s k h n m = true) : okAll (nl u s k h n m) = true ∧ m ≤ 64 ∧ (nl u s k h n m).length ≤ 6 := by
  rcases may_cases hm with ⟨rfl, _, _, _, _, rfl⟩ | ⟨h1, h2, h3, h4, h5, h6⟩
  · rw [nl_nop]; exact ⟨by decide, by omega, by decide⟩
  · have hm64 : m ≤ 64 := by rcases h6 with ⟨_, _, h⟩ | ⟨_, h⟩ <;> omega
    have hn : 0 ≤ n ∧ n ≤ 1073741824 := by rcases h5 with ⟨_, _, h⟩ | ⟨_, h⟩ <;> omega
    refine ⟨?_, hm64, ?_⟩
    · rw [nl, if_neg (by omega)]
      simp only [okAll, List.all_append, List.all_cons, List.all_nil, Bool.and_true, Bool.and_eq_true]
      refine ⟨⟨by simp [okB]; omega, by simp [okB]; omega, by simp [okB]; omega, by simp [okB]; omega⟩, ?_, ?_⟩
      · by_cases h0 : n = 0
        · rw [if_pos h0]; rfl
        · rw [if_neg h0]; simp [okB]; omega
      · by_cases h0 : m = 0
        · rw [if_pos h0]; rfl
        · rw [if_neg h0]; simp [okB]; omega
    · rw [nl, if_neg (by omega)]
      split <;> split <;> simp

theorem own_below {w w' : World} {base : Nat} {e : TypeId} {size : Nat} {v : Value} {n : Nat} {xs : List Value} (h : w.ownsRow base e size v n xs) (hb : Below w.heap.size w w') : w'.ownsRow base e size v n xs :=
  h.kept (row := none) ⟨hb.os, hb.tape, hb.output, hb.size, fun q hq _ => hb.block q hq⟩ (by cases Value.ownBlock _ <;> simp)

theorem put4_no (u s k h n : Int) (t : ByteArray) (w : World) (hN : Nd w) (hm : mayB u s k h n t.size = false) : Calls Tryd.prog 10 #[cv u s k h n t] w (PutPost w .u8 [] 1) := by
  have HM : ∀ W, Nd W → Hid (Calls Tryd.prog 12 #[cv u s k h n t] W (BoolPost W false)) := fun W h' => by have := may_any u s k h n t W h'; rw [hm] at this; exact this
  go_enter Tryd.func10, Tryd.ntmps10
  go_wp2_with fail
  have BW : Below w.heap.size w (w.alloc (.cells #[.int .i64 u, .int .i64 s, .int .i64 k, .int .i64 h, .int .i64 n, .string t] 23)) := (Below.refl _ _).alloc (Nat.le_refl _) _
  have N0 := hN.on BW
  generalize (w.alloc (.cells #[.int .i64 u, .int .i64 s, .int .i64 k, .int .i64 h, .int .i64 n, .string t] 23)) = W0 at *
  refine (HM W0 N0).out.mono ?_
  rintro e w1 ⟨rfl, B1⟩
  go_wp2
  go_ret2
  exact ⟨none, 0, rfl, ⟨Sl.nil, Nat.le_refl _⟩, BW.trans (B1.mono BW.size)⟩

set_option maxHeartbeats 1000000 in
theorem put4_yes (u s k h n : Int) (t : ByteArray) (w : World) (hN : Nd w) (hm : mayB u s k h n t.size = true) : Calls Tryd.prog 10 #[cv u s k h n t] w (PutPost w .u8 (cbs u s k h n t) 0) := by
  obtain ⟨i0, hi, hz0, hz1, hz2⟩ := info_parts info5
  have HM : ∀ W, Nd W → Hid (Calls Tryd.prog 12 #[cv u s k h n t] W (BoolPost W true)) := fun W h' => by have := may_any u s k h n t W h'; rw [hm] at this; exact this
  obtain ⟨hok, hm64, hl6⟩ := may_ok hm
  have hpl := pb_le _ hok
  have HC := Lib.hid (show cbs u s k h n t = pb (nl u s k h n t.size) ++ bt t from rfl)
  have HL : ∀ W, Hid (Calls Tryd.prog 19 #[cv u s k h n t] W (NumsPost W (nl u s k h n t.size))) := fun W => nums_any u s k h n t W
  generalize nl u s k h n t.size = l at *
  go_enter Tryd.func10, Tryd.ntmps10
  go_wp2_with fail
  have BW : Below w.heap.size w (w.alloc (.cells #[.int .i64 u, .int .i64 s, .int .i64 k, .int .i64 h, .int .i64 n, .string t] 23)) := (Below.refl _ _).alloc (Nat.le_refl _) _
  have Z0 : (w.alloc (.cells #[.int .i64 u, .int .i64 s, .int .i64 k, .int .i64 h, .int .i64 n, .string t] 23)).heap.size = w.heap.size + 1 := by simp
  have C0 := cb_new w u s k h n t
  have N0 := hN.on BW
  generalize (w.alloc (.cells #[.int .i64 u, .int .i64 s, .int .i64 k, .int .i64 h, .int .i64 n, .string t] 23)) = W0 at *
  refine (HM W0 N0).out.mono ?_
  rintro e w1 ⟨rfl, B1⟩
  have q1 := B1.size
  obtain ⟨p0, p1, p2, p3, p4, p5⟩ := C0.on B1 (by omega)
  go_wp2_with fail
  clear p0 p1 p2 p3 p4 p5
  refine (HL w1).out.mono ?_
  rintro e w2 ⟨v2, rfl, own2, B2⟩
  have q2 := B2.size
  obtain ⟨A2, c2, rfl, S2, _⟩ := own_slice own2
  clear own2
  go_wp2_with fail
  refine (putall_yes A2 c2 l w2 (by omega) S2 hok).mono ?_
  rintro e w3 ⟨v3, rfl, own3, B3⟩
  have q3 := B3.size
  have B02 : Below (w.heap.size + 1) W0 w2 := ((B1.mono (by omega)).trans (B2.mono (by omega)))
  have B03 : Below (w.heap.size + 1) W0 w3 := B02.trans (B3.mono (by omega))
  obtain ⟨p0, p1, p2, p3, p4, p5⟩ := C0.on B03 (by omega)
  generalize pb l = ys at *
  obtain ⟨A3, c3, rfl⟩ := own_form own3
  clear B1 B2 B3 B02 S2
  go_wp2_with (at_builtin; refine Hid.out ?_)
  unfold Hid
  refine Lib.wpList_append_own_string w3 rfl (.tmp 18) (.tmp 20) 25 9 rfl w2.heap.size 5 i0 Tryd.underlying25 Tryd.underlying9 hi hz0 hz1 hz2 _ ys.length (ys.map (Value.int .u8)) rfl own3 t rfl (by unfold maxLen; omega) (by omega) (by omega) ?_
  intro v4 w4 own4 g4 _
  go_wp2
  go_ret2
  have own5 : w4.ownsRow w2.heap.size 5 1 v4 (ys ++ bt t).length ((ys ++ bt t).map (Value.int .u8)) := by
    rw [bt_cells] at own4
    simpa [bt_len] using own4
  obtain ⟨A5, c5, rfl, hs5⟩ := own_slice own5
  rw [HC.out]
  have Bw3 : Below w.heap.size w w3 := BW.trans (B03.mono (by omega))
  exact ⟨A5, c5, rfl, hs5, Bw3.grown g4 Bw3.size (fun q hq => by have := (own3.lt q hq).1; omega)⟩

theorem put4_any (u s k h n : Int) (t : ByteArray) (w : World) (hN : Nd w) (r : List Int × Int) (hr : cpu u s k h n t = r) : Calls Tryd.prog 10 #[cv u s k h n t] w (PutPost w .u8 r.1 r.2) := by
  subst hr
  cases hm : mayB u s k h n t.size
  · rw [cpu_no hm]; exact put4_no u s k h n t w hN hm
  · rw [cpu_yes hm]; exact put4_yes u s k h n t w hN hm

end Go.Proofs.YteajbcngimccmaaDoor
