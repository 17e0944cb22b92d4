/-
  The table of what kinds need, as the walks read it; the walks of command.isKind, fits, May and Reads, and of the document's in, numbered, worded, May and Reads: they answer what 'mayB' and 'rdB' say. Conditions: of command.May, that the table reads as its initialiser lays it.
-/
import Derived.Test.YtdeaaeejkpghaaaDoorMem
import Derived.Deep.RegionHeld3
import Derived.Deep.DrawnRows
import Derived.Deep.QuietTactic
import Derived.BigQuiet
import Derived.Laws.StructEq
namespace Go.Proofs.YtdeaaeejkpghaaaDoor
open Go.RowKit

/-- Does a kind need an N? -/
def ndN (k : Int) : Bool := decide (k = 5 ∨ k = 6 ∨ k = 7)
/-- .. a Text? -/
def ndT (k : Int) : Bool := decide (k = 4 ∨ k = 5)
/-- From 1 to most where it is needed, else 0. -/
def fitB (n : Int) (b : Bool) (most : Int) : Bool := if b then decide (1 ≤ n ∧ n ≤ most) else decide (n = 0)
/-- May a command be? -/
def mayB (u s k h n : Int) (m : Nat) : Bool :=
  if k = 0 then decide (u = 0 ∧ s = 0 ∧ h = 0 ∧ n = 0 ∧ m = 0)
  else decide (1 ≤ k ∧ k < 8) && (fitB u true 1048576 && (fitB s true 1073741824 && (fitB h true 1048576 && (fitB n (ndN k) 1073741824 && fitB (m : Int) (ndT k) 64))))
def rdB (k : Int) : Bool := decide (k = 7 ∨ k = 0)

/-- The table reads as it was laid. -/
def Nd (w : World) : Prop := ∀ k : Nat, k < 8 → w.cell? ⟨0, k * 2, none⟩ = some (.bool (ndN k)) ∧ w.cell? ⟨0, k * 2 + 1, none⟩ = some (.bool (ndT k))
theorem Nd.pos {w : World} (h : Nd w) : 0 < w.heap.size := World.block_lt_of_cell? w _ (h 0 (by decide)).1
theorem Nd.below {w w' : World} {B : Nat} (h : Nd w) (hb : Below B w w') (hB : 0 < B) : Nd w' := fun k hk =>
  ⟨(hb.cell (p := ⟨0, k * 2, none⟩) hB).trans (h k hk).1, (hb.cell (p := ⟨0, k * 2 + 1, none⟩) hB).trans (h k hk).2⟩
theorem Nd.on {w w' : World} (h : Nd w) (hb : Below w.heap.size w w') : Nd w' := h.below hb h.pos

theorem fits_any (n most : Int) (b : Bool) (w : World) : Calls Tryd.prog 43 #[.int .i64 n, .bool b, .int .i64 most] w fun e w' => e = .returned (.bool (fitB n b most)) ∧ w = w' := by
  cases b
  · have HF := Lib.hid (show fitB n false most = decide (n = 0) from rfl)
    go_enter Tryd.func43, Tryd.ntmps43
    go_wp2
    go_ret
    exact ⟨by rw [HF.out]; rfl, rfl⟩
  · have HF := Lib.hid (show fitB n true most = decide (1 ≤ n ∧ n ≤ most) from rfl)
    by_cases h1 : 1 ≤ n
    · by_cases h2 : n ≤ most
      · have e : Hid (decide (1 ≤ n ∧ n ≤ most) = true) := decide_eq_true ⟨h1, h2⟩
        go_enter Tryd.func43, Tryd.ntmps43
        go_wp2
        go_ret
        exact ⟨by rw [HF.out, e.out]; rfl, rfl⟩
      · have e : Hid (decide (1 ≤ n ∧ n ≤ most) = false) := decide_eq_false (fun h => h2 h.2)
        go_enter Tryd.func43, Tryd.ntmps43
        go_wp2
        go_ret
        exact ⟨by rw [HF.out, e.out]; rfl, rfl⟩
    · have e : Hid (decide (1 ≤ n ∧ n ≤ most) = false) := decide_eq_false (fun h => h1 h.1)
      go_enter Tryd.func43, Tryd.ntmps43
      go_wp2
      go_ret
      exact ⟨by rw [HF.out, e.out]; rfl, rfl⟩

theorem kind_yes (n : Int) (w : World) (h0 : 0 ≤ n) (h1 : n < 8) : Calls Tryd.prog 42 #[.int .i64 n] w fun e w' => e = .returned (.bool true) ∧ w = w' := by
  go_enter Tryd.func42, Tryd.ntmps42
  go_wp2
  go_ret
  exact ⟨rfl, rfl⟩
theorem kind_no (n : Int) (w : World) (h : n < 0 ∨ 8 ≤ n) : Calls Tryd.prog 42 #[.int .i64 n] w fun e w' => e = .returned (.bool false) ∧ w = w' := by
  by_cases h0 : 0 ≤ n
  · have h1 : ¬ n < 8 := by omega
    clear h
    go_enter Tryd.func42, Tryd.ntmps42
    go_wp2
    go_ret
    exact ⟨rfl, rfl⟩
  · clear h
    go_enter Tryd.func42, Tryd.ntmps42
    go_wp2
    go_ret
    exact ⟨rfl, rfl⟩

def BoolPost (w : World) (b : Bool) (e : Ending) (w' : World) : Prop := e = .returned (.bool b) ∧ Below w.heap.size w w'

theorem bytes_same {a b : ByteArray} (h : a.toList = b.toList) : a = b := by
  rw [ByteArray.toList_eq, ByteArray.toList_eq] at h
  obtain ⟨⟨x⟩⟩ := a
  obtain ⟨⟨y⟩⟩ := b
  simp only at h
  rw [h]

theorem eq23 (w : World) (u s k h n u' s' k' h' n' : Int) (t t' : ByteArray) : (binOp .eql 25 (cv u s k h n t) (cv u' s' k' h' n' t')).run Tryd.prog w =
    .ok (.bool ((u == u') && (s == s') && (k == k') && (h == h') && (n == n') && decide (t = t'))) w := by
  rw [run_eql_struct, show (10000 : Nat) = 9999 + 1 from rfl, run_equalIn_struct w 9999 25 _ _ (by kernel_rfl) (by kernel_rfl)]
  simp [Op.eqFields, go_sem]
  by_cases h1 : u = u' <;> by_cases h2 : s = s' <;> by_cases h3 : k = k' <;> by_cases h4 : h = h' <;> by_cases h5 : n = n' <;> simp [h1, h2, h3, h4, h5]
  by_cases h6 : t = t'
  · simp [h6]
  · have : ¬ t.toList = t'.toList := fun e => h6 (bytes_same e)
    simp [h6, this]
theorem guard23 (w : World) (a b : Operand) (xs ys : Array Value) : (eqGuard .eql 25 a b (.agg xs) (.agg ys)).run Tryd.prog w = .ok () w := run_eqGuard_agg w .eql 25 a b xs ys (by kernel_rfl)
attribute [local go_sem ↓ high] eq23 guard23

theorem size_eq (t : ByteArray) : decide (t = { data := #[] }) = decide (t.size = 0) := by
  rw [Bool.eq_iff_iff]
  simp only [decide_eq_true_eq]
  constructor
  · rintro rfl; rfl
  · intro h
    obtain ⟨d⟩ := t
    have : d.size = 0 := h
    rw [Array.eq_empty_of_size_eq_zero this]

theorem may_nop (u s h n : Int) (t : ByteArray) (w : World) : Calls Tryd.prog 27 #[cv u s 0 h n t] w (BoolPost w (mayB u s 0 h n t.size)) := by
  go_enter Tryd.func27, Tryd.ntmps27
  go_wp2
  go_ret
  refine ⟨?_, (Below.refl _ _).alloc (Nat.le_refl _) _⟩
  show Ending.returned (.bool (u == 0 && s == 0 && h == 0 && n == 0 && decide (t = { data := #[] }))) = _
  rw [size_eq, mayB, if_pos rfl]
  congr 2
  rw [Bool.eq_iff_iff]
  simp only [Bool.and_eq_true, beq_iff_eq, decide_eq_true_eq, and_assoc]

theorem below_drewN {B : Nat} {a w : World} (h : Below B a w) (m : Nat) : Below B a (w.drewN m) := ⟨h.os, h.tape, h.output, h.size, h.block⟩

set_option maxHeartbeats 1000000 in
theorem may_1 (u s h n : Int) (k : Nat) (t : ByteArray) (w : World) (hN : Nd w) (h0 : 0 < k) (h1 : k < 8) (b0 : fitB u true 1048576 = false) : Calls Tryd.prog 27 #[cv u s k h n t] w (BoolPost w false) := by
  obtain ⟨c1, c2⟩ := hN k h1
  have hp := hN.pos
  have hk0 : ((k : Int) == 0) = false := by simp; omega
  have H : ∀ W, Hid (Calls Tryd.prog 42 #[.int .i64 (k : Int)] W fun e w' => e = .returned (.bool true) ∧ W = w') := fun W => kind_yes k W (by omega) (by omega)
  have H0 : ∀ W, Hid (Calls Tryd.prog 43 #[.int .i64 u, .bool true, .int .i64 1048576] W fun e w' => e = .returned (.bool false) ∧ w' = W) := fun W => by
    have := fits_any u 1048576 true W
    rw [b0] at this
    exact this.mono fun _ _ h => ⟨h.1, h.2.symm⟩
  clear hN b0
  go_enter Tryd.func27, Tryd.ntmps27
  go_wp2_with fail
  refine (H _).out.mono ?_
  rintro e w1 ⟨rfl, rfl⟩
  go_wp2_with fail
  go_quiet (((first | (go_at_call 43; with_reducible refine Calls.quiet_of_same (H0 _).out))))
  go_wp2
  go_ret
  exact ⟨rfl, below_drewN ((Below.refl _ _).alloc (Nat.le_refl _) _) _⟩

set_option maxHeartbeats 1000000 in
theorem may_2 (u s h n : Int) (k : Nat) (t : ByteArray) (w : World) (hN : Nd w) (h0 : 0 < k) (h1 : k < 8) (b0 : fitB u true 1048576 = true) (b1 : fitB s true 1073741824 = false) : Calls Tryd.prog 27 #[cv u s k h n t] w (BoolPost w false) := by
  obtain ⟨c1, c2⟩ := hN k h1
  have hp := hN.pos
  have hk0 : ((k : Int) == 0) = false := by simp; omega
  have H : ∀ W, Hid (Calls Tryd.prog 42 #[.int .i64 (k : Int)] W fun e w' => e = .returned (.bool true) ∧ W = w') := fun W => kind_yes k W (by omega) (by omega)
  have H0 : ∀ W, Hid (Calls Tryd.prog 43 #[.int .i64 u, .bool true, .int .i64 1048576] W fun e w' => e = .returned (.bool true) ∧ w' = W) := fun W => by
    have := fits_any u 1048576 true W
    rw [b0] at this
    exact this.mono fun _ _ h => ⟨h.1, h.2.symm⟩
  have H1 : ∀ W, Hid (Calls Tryd.prog 43 #[.int .i64 s, .bool true, .int .i64 1073741824] W fun e w' => e = .returned (.bool false) ∧ w' = W) := fun W => by
    have := fits_any s 1073741824 true W
    rw [b1] at this
    exact this.mono fun _ _ h => ⟨h.1, h.2.symm⟩
  clear hN b0 b1
  go_enter Tryd.func27, Tryd.ntmps27
  go_wp2_with fail
  refine (H _).out.mono ?_
  rintro e w1 ⟨rfl, rfl⟩
  go_wp2_with fail
  go_quiet (((first | (go_at_call 43; with_reducible refine Calls.quiet_of_same (H0 _).out) | (go_at_call 43; with_reducible refine Calls.quiet_of_same (H1 _).out))))
  go_wp2
  go_ret
  exact ⟨rfl, below_drewN ((Below.refl _ _).alloc (Nat.le_refl _) _) _⟩

set_option maxHeartbeats 1000000 in
theorem may_3 (u s h n : Int) (k : Nat) (t : ByteArray) (w : World) (hN : Nd w) (h0 : 0 < k) (h1 : k < 8) (b0 : fitB u true 1048576 = true) (b1 : fitB s true 1073741824 = true) (b2 : fitB h true 1048576 = false) : Calls Tryd.prog 27 #[cv u s k h n t] w (BoolPost w false) := by
  obtain ⟨c1, c2⟩ := hN k h1
  have hp := hN.pos
  have hk0 : ((k : Int) == 0) = false := by simp; omega
  have H : ∀ W, Hid (Calls Tryd.prog 42 #[.int .i64 (k : Int)] W fun e w' => e = .returned (.bool true) ∧ W = w') := fun W => kind_yes k W (by omega) (by omega)
  have H0 : ∀ W, Hid (Calls Tryd.prog 43 #[.int .i64 u, .bool true, .int .i64 1048576] W fun e w' => e = .returned (.bool true) ∧ w' = W) := fun W => by
    have := fits_any u 1048576 true W
    rw [b0] at this
    exact this.mono fun _ _ h => ⟨h.1, h.2.symm⟩
  have H1 : ∀ W, Hid (Calls Tryd.prog 43 #[.int .i64 s, .bool true, .int .i64 1073741824] W fun e w' => e = .returned (.bool true) ∧ w' = W) := fun W => by
    have := fits_any s 1073741824 true W
    rw [b1] at this
    exact this.mono fun _ _ h => ⟨h.1, h.2.symm⟩
  have H2 : ∀ W, Hid (Calls Tryd.prog 43 #[.int .i64 h, .bool true, .int .i64 1048576] W fun e w' => e = .returned (.bool false) ∧ w' = W) := fun W => by
    have := fits_any h 1048576 true W
    rw [b2] at this
    exact this.mono fun _ _ h => ⟨h.1, h.2.symm⟩
  clear hN b0 b1 b2
  go_enter Tryd.func27, Tryd.ntmps27
  go_wp2_with fail
  refine (H _).out.mono ?_
  rintro e w1 ⟨rfl, rfl⟩
  go_wp2_with fail
  go_quiet (((first | (go_at_call 43; with_reducible refine Calls.quiet_of_same (H0 _).out) | (go_at_call 43; with_reducible refine Calls.quiet_of_same (H1 _).out) | (go_at_call 43; with_reducible refine Calls.quiet_of_same (H2 _).out))))
  go_wp2
  go_ret
  exact ⟨rfl, below_drewN ((Below.refl _ _).alloc (Nat.le_refl _) _) _⟩

set_option maxHeartbeats 1000000 in
theorem may_4 (u s h n : Int) (k : Nat) (t : ByteArray) (w : World) (hN : Nd w) (h0 : 0 < k) (h1 : k < 8) (b0 : fitB u true 1048576 = true) (b1 : fitB s true 1073741824 = true) (b2 : fitB h true 1048576 = true) (b3 : fitB n (ndN k) 1073741824 = false) : Calls Tryd.prog 27 #[cv u s k h n t] w (BoolPost w false) := by
  obtain ⟨c1, c2⟩ := hN k h1
  have hp := hN.pos
  have hk0 : ((k : Int) == 0) = false := by simp; omega
  have H : ∀ W, Hid (Calls Tryd.prog 42 #[.int .i64 (k : Int)] W fun e w' => e = .returned (.bool true) ∧ W = w') := fun W => kind_yes k W (by omega) (by omega)
  have H0 : ∀ W, Hid (Calls Tryd.prog 43 #[.int .i64 u, .bool true, .int .i64 1048576] W fun e w' => e = .returned (.bool true) ∧ w' = W) := fun W => by
    have := fits_any u 1048576 true W
    rw [b0] at this
    exact this.mono fun _ _ h => ⟨h.1, h.2.symm⟩
  have H1 : ∀ W, Hid (Calls Tryd.prog 43 #[.int .i64 s, .bool true, .int .i64 1073741824] W fun e w' => e = .returned (.bool true) ∧ w' = W) := fun W => by
    have := fits_any s 1073741824 true W
    rw [b1] at this
    exact this.mono fun _ _ h => ⟨h.1, h.2.symm⟩
  have H2 : ∀ W, Hid (Calls Tryd.prog 43 #[.int .i64 h, .bool true, .int .i64 1048576] W fun e w' => e = .returned (.bool true) ∧ w' = W) := fun W => by
    have := fits_any h 1048576 true W
    rw [b2] at this
    exact this.mono fun _ _ h => ⟨h.1, h.2.symm⟩
  have H3 : ∀ W, Hid (Calls Tryd.prog 43 #[.int .i64 n, .bool (ndN k), .int .i64 1073741824] W fun e w' => e = .returned (.bool false) ∧ w' = W) := fun W => by
    have := fits_any n 1073741824 (ndN k) W
    rw [b3] at this
    exact this.mono fun _ _ h => ⟨h.1, h.2.symm⟩
  clear hN b0 b1 b2 b3
  generalize ndN (k : Int) = q1 at *
  generalize ndT (k : Int) = q2 at *
  go_enter Tryd.func27, Tryd.ntmps27
  go_wp2_with fail
  refine (H _).out.mono ?_
  rintro e w1 ⟨rfl, rfl⟩
  go_wp2_with fail
  go_quiet (((first | (go_at_call 43; with_reducible refine Calls.quiet_of_same (H0 _).out) | (go_at_call 43; with_reducible refine Calls.quiet_of_same (H1 _).out) | (go_at_call 43; with_reducible refine Calls.quiet_of_same (H2 _).out) | (go_at_call 43; with_reducible refine Calls.quiet_of_same (H3 _).out))))
  go_wp2
  go_ret
  exact ⟨rfl, below_drewN ((Below.refl _ _).alloc (Nat.le_refl _) _) _⟩

set_option maxHeartbeats 1000000 in
theorem may_5 (b : Bool) (u s h n : Int) (k : Nat) (t : ByteArray) (w : World) (hN : Nd w) (h0 : 0 < k) (h1 : k < 8) (b0 : fitB u true 1048576 = true) (b1 : fitB s true 1073741824 = true) (b2 : fitB h true 1048576 = true) (b3 : fitB n (ndN k) 1073741824 = true) (b4 : fitB (t.size : Int) (ndT k) 64 = b) : Calls Tryd.prog 27 #[cv u s k h n t] w (BoolPost w b) := by
  obtain ⟨c1, c2⟩ := hN k h1
  have hp := hN.pos
  have hk0 : ((k : Int) == 0) = false := by simp; omega
  have H : ∀ W, Hid (Calls Tryd.prog 42 #[.int .i64 (k : Int)] W fun e w' => e = .returned (.bool true) ∧ W = w') := fun W => kind_yes k W (by omega) (by omega)
  have H0 : ∀ W, Hid (Calls Tryd.prog 43 #[.int .i64 u, .bool true, .int .i64 1048576] W fun e w' => e = .returned (.bool true) ∧ w' = W) := fun W => by
    have := fits_any u 1048576 true W
    rw [b0] at this
    exact this.mono fun _ _ h => ⟨h.1, h.2.symm⟩
  have H1 : ∀ W, Hid (Calls Tryd.prog 43 #[.int .i64 s, .bool true, .int .i64 1073741824] W fun e w' => e = .returned (.bool true) ∧ w' = W) := fun W => by
    have := fits_any s 1073741824 true W
    rw [b1] at this
    exact this.mono fun _ _ h => ⟨h.1, h.2.symm⟩
  have H2 : ∀ W, Hid (Calls Tryd.prog 43 #[.int .i64 h, .bool true, .int .i64 1048576] W fun e w' => e = .returned (.bool true) ∧ w' = W) := fun W => by
    have := fits_any h 1048576 true W
    rw [b2] at this
    exact this.mono fun _ _ h => ⟨h.1, h.2.symm⟩
  have H3 : ∀ W, Hid (Calls Tryd.prog 43 #[.int .i64 n, .bool (ndN k), .int .i64 1073741824] W fun e w' => e = .returned (.bool true) ∧ w' = W) := fun W => by
    have := fits_any n 1073741824 (ndN k) W
    rw [b3] at this
    exact this.mono fun _ _ h => ⟨h.1, h.2.symm⟩
  have H4 : ∀ W, Hid (Calls Tryd.prog 43 #[.int .i64 (t.size : Int), .bool (ndT k), .int .i64 64] W fun e w' => e = .returned (.bool b) ∧ w' = W) := fun W => by
    have := fits_any (t.size : Int) 64 (ndT k) W
    rw [b4] at this
    exact this.mono fun _ _ h => ⟨h.1, h.2.symm⟩
  clear hN b0 b1 b2 b3 b4
  generalize ndN (k : Int) = q1 at *
  generalize ndT (k : Int) = q2 at *
  go_enter Tryd.func27, Tryd.ntmps27
  go_wp2_with fail
  refine (H _).out.mono ?_
  rintro e w1 ⟨rfl, rfl⟩
  go_wp2_with fail
  go_quiet (((first | (go_at_call 43; with_reducible refine Calls.quiet_of_same (H0 _).out) | (go_at_call 43; with_reducible refine Calls.quiet_of_same (H1 _).out) | (go_at_call 43; with_reducible refine Calls.quiet_of_same (H2 _).out) | (go_at_call 43; with_reducible refine Calls.quiet_of_same (H3 _).out) | (go_at_call 43; with_reducible refine Calls.quiet_of_same (H4 _).out))))
  go_wp2
  go_ret
  exact ⟨rfl, below_drewN ((Below.refl _ _).alloc (Nat.le_refl _) _) _⟩

theorem may_none (u s k h n : Int) (t : ByteArray) (w : World) (hk : k < 0 ∨ 8 ≤ k) : Calls Tryd.prog 27 #[cv u s k h n t] w (BoolPost w false) := by
  have hk0 : (k == 0) = false := by rw [beq_eq_false_iff_ne]; omega
  have H : ∀ W, Hid (Calls Tryd.prog 42 #[.int .i64 k] W fun e w' => e = .returned (.bool false) ∧ W = w') := fun W => kind_no k W hk
  clear hk
  go_enter Tryd.func27, Tryd.ntmps27
  go_wp2_with fail
  refine (H _).out.mono ?_
  rintro e w1 ⟨rfl, rfl⟩
  go_wp2
  go_ret
  exact ⟨rfl, (Below.refl _ _).alloc (Nat.le_refl _) _⟩

theorem may_any (u s k h n : Int) (t : ByteArray) (w : World) (hN : Nd w) : Calls Tryd.prog 27 #[cv u s k h n t] w (BoolPost w (mayB u s k h n t.size)) := by
  by_cases h0 : k = 0
  · subst h0; exact may_nop u s h n t w
  · by_cases hk : k < 0 ∨ 8 ≤ k
    · have : mayB u s k h n t.size = false := by rw [mayB, if_neg h0, decide_eq_false (by omega)]; rfl
      rw [this]; exact may_none u s k h n t w hk
    · obtain ⟨j, rfl⟩ : ∃ j : Nat, k = (j : Int) := ⟨k.toNat, by omega⟩
      have j0 : 0 < j := by omega
      have j8 : j < 8 := by omega
      rw [mayB, if_neg h0, decide_eq_true (by omega), Bool.true_and]
      rcases b1 : fitB u true 1048576 with _ | _
      · exact may_1 u s h n j t w hN j0 j8 b1
      rcases b2 : fitB s true 1073741824 with _ | _
      · exact may_2 u s h n j t w hN j0 j8 b1 b2
      rcases b3 : fitB h true 1048576 with _ | _
      · exact may_3 u s h n j t w hN j0 j8 b1 b2 b3
      rcases b4 : fitB n (ndN j) 1073741824 with _ | _
      · exact may_4 u s h n j t w hN j0 j8 b1 b2 b3 b4
      · exact may_5 _ u s h n j t w hN j0 j8 b1 b2 b3 b4 rfl

theorem in_any (n most : Int) (w : World) : Calls Tryd.prog 44 #[.int .i64 n, .int .i64 most] w fun e w' => e = .returned (.bool (fitB n true most)) ∧ w = w' := by
  have HF := Lib.hid (show fitB n true most = decide (1 ≤ n ∧ n ≤ most) from rfl)
  by_cases h1 : 1 ≤ n
  · have e : Hid (decide (1 ≤ n ∧ n ≤ most) = decide (n ≤ most)) := by show decide (1 ≤ n ∧ n ≤ most) = decide (n ≤ most); rw [Bool.eq_iff_iff]; simp [h1]
    go_enter Tryd.func44, Tryd.ntmps44
    go_wp2
    go_ret
    exact ⟨by rw [HF.out, e.out]; rfl, rfl⟩
  · have e : Hid (decide (1 ≤ n ∧ n ≤ most) = false) := decide_eq_false (fun h => h1 h.1)
    go_enter Tryd.func44, Tryd.ntmps44
    go_wp2
    go_ret
    exact ⟨by rw [HF.out, e.out]; rfl, rfl⟩

theorem numbered_any (k : Int) (w : World) : Calls Tryd.prog 45 #[.int .i64 k] w fun e w' => e = .returned (.bool (ndN k)) ∧ w = w' := by
  by_cases h5 : k = 5
  · subst h5
    go_enter Tryd.func45, Tryd.ntmps45
    go_wp2
    go_ret
    exact ⟨rfl, rfl⟩
  by_cases h6 : k = 6
  · subst h6
    go_enter Tryd.func45, Tryd.ntmps45
    go_wp2
    go_ret
    exact ⟨rfl, rfl⟩
  have e5 : (k == 5) = false := by rw [beq_eq_false_iff_ne]; exact h5
  have e6 : (k == 6) = false := by rw [beq_eq_false_iff_ne]; exact h6
  have e : Hid (ndN k = (k == 7)) := by unfold ndN; show decide (k = 5 ∨ k = 6 ∨ k = 7) = (k == 7); rw [Bool.eq_iff_iff]; simp [h5, h6]
  clear h5 h6
  go_enter Tryd.func45, Tryd.ntmps45
  go_wp2
  go_ret
  exact ⟨by rw [e.out]; rfl, rfl⟩

theorem worded_any (k : Int) (w : World) : Calls Tryd.prog 46 #[.int .i64 k] w fun e w' => e = .returned (.bool (ndT k)) ∧ w = w' := by
  by_cases h4 : k = 4
  · subst h4
    go_enter Tryd.func46, Tryd.ntmps46
    go_wp2
    go_ret
    exact ⟨rfl, rfl⟩
  have e4 : (k == 4) = false := by rw [beq_eq_false_iff_ne]; exact h4
  have e : Hid (ndT k = (k == 5)) := by unfold ndT; show decide (k = 4 ∨ k = 5) = (k == 5); rw [Bool.eq_iff_iff]; simp [h4]
  clear h4
  go_enter Tryd.func46, Tryd.ntmps46
  go_wp2
  go_ret
  exact ⟨by rw [e.out]; rfl, rfl⟩

end Go.Proofs.YtdeaaeejkpghaaaDoor
