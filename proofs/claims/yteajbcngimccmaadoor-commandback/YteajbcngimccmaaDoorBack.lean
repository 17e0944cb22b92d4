/-
  What was put is got; without its last bytes, or with one more, it is refused: CommandBack answers true whatever the command, the cut and the byte; they read as they did. Conditions: none beyond the card's own (the table of what kinds need reads as its initialiser lays it).
-/
import Derived.Test.YteajbcngimccmaaDoorOpen
import Derived.Test.YteajbcngimccmaaDoorGet4
import Derived.Test.YteajbcngimccmaaDoorCards
import Derived.Test.YteajbcngimccmaaDoorTie
import Derived.SevenTiedAt
namespace Go.Proofs.YteajbcngimccmaaDoor.commandBack
open Go.ChangeShapes Go.WideShapes Go.ChangeAt Go.RowKit Go.Joins
set_option linter.unusedVariables false

theorem neq23 (w : World) (u s k h n u' s' k' h' n' : Int) (t t' : ByteArray) : (binOp .neq 23 (cv u s k h n t) (cv u' s' k' h' n' t')).run Tryd.prog w =
    .ok (.bool (!((u == u') && (s == s') && (k == k') && (h == h') && (n == n') && decide (t = t')))) w := by
  have := eq23 w u s k h n u' s' k' h' n' t t'
  rw [run_eql_struct] at this
  rw [run_neq_struct]
  generalize (Op.equalIn 10000 23 (.agg #[.int .i64 u, .int .i64 s, .int .i64 k, .int .i64 h, .int .i64 n, .string t]) (.agg #[.int .i64 u', .int .i64 s', .int .i64 k', .int .i64 h', .int .i64 n', .string t'])).run Tryd.prog w = r at *
  cases r with
  | ok b w' =>
    simp only [Result.andThen_ok, Result.ok.injEq, Value.bool.injEq] at this ⊢
    exact ⟨by rw [this.1], this.2⟩
  | _ => simp [Result.andThen] at this
theorem guard23n (w : World) (a b : Operand) (xs ys : Array Value) : (eqGuard .neq 23 a b (.agg xs) (.agg ys)).run Tryd.prog w = .ok () w := run_eqGuard_agg w .neq 23 a b xs ys (by kernel_rfl)
attribute [local go_sem ↓ high] neq23 guard23n

theorem one_u8 (W : World) (m : Int) : Sl (W.alloc (.cells #[.int .u8 m] 5)) (W.heap.size + 1) .u8 (some ⟨W.heap.size, 0, none⟩) [m] :=
  .inr ⟨W.heap.size, 0, rfl, by omega, fun j z hz => by
    match j, hz with
    | 0, hz => simp at hz; subst hz; simp⟩

theorem long (u s k h n : Int) (t : ByteArray) (a1 a2 : Int) (w : World) (hN : Nd w) (hl : (1000 : Int) < (t.size : Int)) : Calls Tryd.prog 5 #[cv u s k h n t, .int .i64 a1, .int .u8 a2] w (UpPost w) := by
  go_enter Tryd.func5, Tryd.ntmps5
  go_wp2_with fail
  have BW : Below w.heap.size w (w.alloc (.cells #[.int .i64 u, .int .i64 s, .int .i64 k, .int .i64 h, .int .i64 n, .string t] 23)) := (Below.refl _ _).alloc (Nat.le_refl _) _
  have Z0 : (w.alloc (.cells #[.int .i64 u, .int .i64 s, .int .i64 k, .int .i64 h, .int .i64 n, .string t] 23)).heap.size = w.heap.size + 1 := by simp
  have C0 := cb_new w u s k h n t
  have N0 := hN.on BW
  generalize (w.alloc (.cells #[.int .i64 u, .int .i64 s, .int .i64 k, .int .i64 h, .int .i64 n, .string t] 23)) = W0 at *
  refine (awake_any W0 N0).mono ?_
  rintro e w1 ⟨rfl, B1⟩
  have N1 := N0.on B1
  have q1 := B1.size
  obtain ⟨p0, p1, p2, p3, p4, p5⟩ := C0.on B1 (by omega)
  go_wp2
  go_ret
  exact ⟨rfl, BW.trans (B1.mono BW.size)⟩

theorem refused (u s k h n : Int) (t : ByteArray) (a1 a2 : Int) (w : World) (hN : Nd w) (hl : ¬ (1000 : Int) < (t.size : Int)) (e0 : Int) (he : e0 ≠ 0) (P0 : cpu u s k h n t = ([], e0)) : Calls Tryd.prog 5 #[cv u s k h n t, .int .i64 a1, .int .u8 a2] w (UpPost w) := by
  have HP : ∀ W, Nd W → Hid (Calls Tryd.prog 10 #[cv u s k h n t] W (PutPost W .u8 [] e0)) := fun W h' => by have := put4_any u s k h n t W h' _ P0; exact this
  have hl' : decide ((1000 : Int) < (t.size : Int)) = false := by simpa using hl
  have heb : (e0 == 0) = false := by rw [beq_eq_false_iff_ne]; exact he
  clear P0 hl he
  go_enter Tryd.func5, Tryd.ntmps5
  go_wp2_with fail
  have BW : Below w.heap.size w (w.alloc (.cells #[.int .i64 u, .int .i64 s, .int .i64 k, .int .i64 h, .int .i64 n, .string t] 23)) := (Below.refl _ _).alloc (Nat.le_refl _) _
  have Z0 : (w.alloc (.cells #[.int .i64 u, .int .i64 s, .int .i64 k, .int .i64 h, .int .i64 n, .string t] 23)).heap.size = w.heap.size + 1 := by simp
  have C0 := cb_new w u s k h n t
  have N0 := hN.on BW
  generalize (w.alloc (.cells #[.int .i64 u, .int .i64 s, .int .i64 k, .int .i64 h, .int .i64 n, .string t] 23)) = W0 at *
  refine (awake_any W0 N0).mono ?_
  rintro e w1 ⟨rfl, B1⟩
  have N1 := N0.on B1
  have q1 := B1.size
  obtain ⟨p0, p1, p2, p3, p4, p5⟩ := C0.on B1 (by omega)
  go_wp2_with fail
  refine (HP _ N1).out.mono ?_
  rintro e w2 ⟨A2, c2, rfl, ⟨S2, l2⟩, B2⟩
  clear S2
  go_wp2
  go_ret
  exact ⟨rfl, BW.trans ((B1.mono BW.size).trans (B2.mono (by omega)))⟩

set_option maxHeartbeats 1000000 in
theorem neg (u s k h n : Int) (t : ByteArray) (a1 a2 : Int) (w : World) (hN : Nd w) (hl : ¬ (1000 : Int) < (t.size : Int)) (x : List Int) (hx : x.length ≤ 2000) (P0 : cpu u s k h n t = (x, 0))
    (HG1 : ∀ (W : World) (A : Option Addr) (c : Nat), Nd W → Sl W W.heap.size .u8 A x → x.length ≤ c → Hid (Calls Tryd.prog 16 #[.slice A x.length c] W fun e w' => e = .returned (.tuple #[cv u s k h n t, .int .i64 0]) ∧ Below W.heap.size W w'))
    (HG2 : ∀ (W : World) (A : Option Addr) (c : Nat), Nd W → Sl W W.heap.size .u8 A (x ++ [a2]) → (x ++ [a2]).length ≤ c → Hid (Calls Tryd.prog 16 #[.slice A (x ++ [a2]).length c] W fun e w' => e = .returned (.tuple #[cv 0 0 0 0 0 { data := #[] }, .int .i64 2]) ∧ Below W.heap.size W w')) (ha : a1 < 0) : Calls Tryd.prog 5 #[cv u s k h n t, .int .i64 a1, .int .u8 a2] w (UpPost w) := by
  have HP : ∀ W, Nd W → Hid (Calls Tryd.prog 10 #[cv u s k h n t] W (PutPost W .u8 x 0)) := fun W h' => by have := put4_any u s k h n t W h' _ P0; exact this
  obtain ⟨i0, hi, hz0, hz1, hz2⟩ := info_parts info5
  have hl' : decide ((1000 : Int) < (t.size : Int)) = false := by simpa using hl
  clear P0 hl
  go_enter Tryd.func5, Tryd.ntmps5
  go_wp2_with fail
  have BW : Below w.heap.size w (w.alloc (.cells #[.int .i64 u, .int .i64 s, .int .i64 k, .int .i64 h, .int .i64 n, .string t] 23)) := (Below.refl _ _).alloc (Nat.le_refl _) _
  have Z0 : (w.alloc (.cells #[.int .i64 u, .int .i64 s, .int .i64 k, .int .i64 h, .int .i64 n, .string t] 23)).heap.size = w.heap.size + 1 := by simp
  have C0 := cb_new w u s k h n t
  have N0 := hN.on BW
  generalize (w.alloc (.cells #[.int .i64 u, .int .i64 s, .int .i64 k, .int .i64 h, .int .i64 n, .string t] 23)) = W0 at *
  refine (awake_any W0 N0).mono ?_
  rintro e w1 ⟨rfl, B1⟩
  have N1 := N0.on B1
  have q1 := B1.size
  obtain ⟨p0, p1, p2, p3, p4, p5⟩ := C0.on B1 (by omega)
  go_wp2_with fail
  clear p0 p1 p2 p3 p4 p5
  refine (HP _ N1).out.mono ?_
  rintro e w2 ⟨A2, c2, rfl, ⟨S2, l2⟩, B2⟩
  have q2 := B2.size
  have N2 := N1.on B2
  have B02 : Below (w.heap.size + 1) W0 w2 := (B1.mono (by omega)).trans (B2.mono (by omega))
  go_wp2_with fail
  refine (HG1 w2 A2 c2 N2 S2 l2).out.mono ?_
  rintro e w3 ⟨rfl, B3⟩
  have q3 := B3.size
  have B03 : Below (w.heap.size + 1) W0 w3 := B02.trans (B3.mono (by omega))
  have S3 : Sl w3 w2.heap.size .u8 A2 x := S2.below B3
  have D4 := cb_new w3 u s k h n t
  have B04 : Below (w.heap.size + 1) W0 (w3.alloc (.cells #[.int .i64 u, .int .i64 s, .int .i64 k, .int .i64 h, .int .i64 n, .string t] 23)) := B03.alloc (by omega) _
  have S4 : Sl (w3.alloc (.cells #[.int .i64 u, .int .i64 s, .int .i64 k, .int .i64 h, .int .i64 n, .string t] 23)) w2.heap.size .u8 A2 x := S3.below ((Below.refl _ _).alloc (by omega) _)
  have Z4 : (w3.alloc (.cells #[.int .i64 u, .int .i64 s, .int .i64 k, .int .i64 h, .int .i64 n, .string t] 23)).heap.size = w3.heap.size + 1 := by simp
  have O4 := World.ownsRow_nil (w3.alloc (.cells #[.int .i64 u, .int .i64 s, .int .i64 k, .int .i64 h, .int .i64 n, .string t] 23)) (w3.heap.size + 1) 5 1
  clear S2 S3 B3 B2
  go_wp2_with (at_builtin; refine Hid.out ?_)
  unfold Hid
  generalize w3.alloc (.cells #[.int .i64 u, .int .i64 s, .int .i64 k, .int .i64 h, .int .i64 n, .string t] 23) = w4 at *
  refine wpList_app rfl (.const (.slice none 0 0)) (.tmp 42) 25 rfl (w3.heap.size + 1) 5 i0 (.int .u8 0) 1 Tryd.underlying25 hi hz0 hz1 hz2 rfl _ 0 [] rfl O4 w2.heap.size .u8 A2 c2 x rfl S4 (by unfold maxLen; omega) (by omega) (by omega) ?_
  intro v5 w5 own5' g5
  have own5 : w5.ownsRow (w3.heap.size + 1) 5 1 v5 x.length (x.map (Value.int .u8)) := by simpa using own5'
  have G5 : Below (w3.heap.size + 1) w4 w5 := (Below.refl _ _).grown g5 (by omega) (fun q hq => (O4.lt q hq).1)
  clear own5' g5 O4
  have q5 := G5.size
  obtain ⟨A5, c5, rfl⟩ := own_form own5
  go_wp2_with (at_builtin; refine Hid.out ?_)
  unfold Hid
  refine wpList_app rfl (.tmp 43) (.tmp 45) 25 rfl (w3.heap.size + 1) 5 i0 (.int .u8 0) 1 Tryd.underlying25 hi hz0 hz1 hz2 rfl _ x.length (x.map (Value.int .u8)) rfl (own5.alloc _) (w5.heap.size + 1) .u8 (some ⟨w5.heap.size, 0, none⟩) 1 [a2] rfl (one_u8 w5 a2) (by unfold maxLen; simp; omega) (by simp; omega) (by simp; omega) ?_
  intro v6 w6 own6' g6
  have own6 : w6.ownsRow (w3.heap.size + 1) 5 1 v6 (x ++ [a2]).length ((x ++ [a2]).map (Value.int .u8)) := by simpa using own6'
  have G6 : Below (w3.heap.size + 1) w4 w6 := (G5.alloc (by omega) (.cells #[.int .u8 a2] 5)).grown g6 (by simp; omega) (fun q hq => ((own5.alloc (.cells #[.int .u8 a2] 5)).lt q hq).1)
  clear own6' g6 own5
  have q6 := G6.size
  obtain ⟨A6, c6, rfl, S6, l6⟩ := own_slice own6
  have B06 : Below (w.heap.size + 1) W0 w6 := B04.trans (G6.mono (by omega))
  have N6 := N0.below B06 (by omega)
  have D6 : Cb w6 w3.heap.size u s k h n t := D4.on G6 (by omega)
  have S6x : Sl w6 w2.heap.size .u8 A2 x := S4.below (G6.mono (by omega))
  clear G6 G5 B04 S4 D4 own6
  generalize hy : x ++ [a2] = y at *
  go_wp2_with fail
  refine (HG2 w6 A6 c6 N6 S6 l6).out.mono ?_
  rintro e w7 ⟨rfl, B7⟩
  have q7 := B7.size
  have B07 : Below (w.heap.size + 1) W0 w7 := B06.trans (B7.mono (by omega))
  have D7 := D6.on B7 (by omega)
  have S7x := S6x.below (B7.mono (by omega))
  have D8 := D7.on ((Below.refl w7.heap.size w7).alloc (Nat.le_refl _) (.cells #[.int .i64 0, .int .i64 0, .int .i64 0, .int .i64 0, .int .i64 0, .string { data := #[] }] 23)) (by omega)
  have B08 : Below (w.heap.size + 1) W0 (w7.alloc (.cells #[.int .i64 0, .int .i64 0, .int .i64 0, .int .i64 0, .int .i64 0, .string { data := #[] }] 23)) := B07.alloc (by omega) _
  have S8x := S7x.below (w' := w7.alloc (.cells #[.int .i64 0, .int .i64 0, .int .i64 0, .int .i64 0, .int .i64 0, .string { data := #[] }] 23)) ((Below.refl _ _).alloc (by omega) _)
  have C7 := C0.on B07 (by omega)
  obtain ⟨p0, p1, p2, p3, p4, p5⟩ := C7
  obtain ⟨r0, r1, r2, r3, r4, r5⟩ := D7
  have y1 : w.heap.size < w7.heap.size := by omega
  have y2 : w3.heap.size < w7.heap.size := by omega
  clear S6 S6x D6 B06
  go_wp2
  go_ret
  exact ⟨rfl, BW.trans (B08.mono (by omega))⟩

set_option maxHeartbeats 1000000 in
theorem past (u s k h n : Int) (t : ByteArray) (a1 a2 : Int) (w : World) (hN : Nd w) (hl : ¬ (1000 : Int) < (t.size : Int)) (x : List Int) (hx : x.length ≤ 2000) (P0 : cpu u s k h n t = (x, 0))
    (HG1 : ∀ (W : World) (A : Option Addr) (c : Nat), Nd W → Sl W W.heap.size .u8 A x → x.length ≤ c → Hid (Calls Tryd.prog 16 #[.slice A x.length c] W fun e w' => e = .returned (.tuple #[cv u s k h n t, .int .i64 0]) ∧ Below W.heap.size W w'))
    (HG2 : ∀ (W : World) (A : Option Addr) (c : Nat), Nd W → Sl W W.heap.size .u8 A (x ++ [a2]) → (x ++ [a2]).length ≤ c → Hid (Calls Tryd.prog 16 #[.slice A (x ++ [a2]).length c] W fun e w' => e = .returned (.tuple #[cv 0 0 0 0 0 { data := #[] }, .int .i64 2]) ∧ Below W.heap.size W w')) (ha0 : ¬ a1 < 0) (ha : (x.length : Int) ≤ a1) : Calls Tryd.prog 5 #[cv u s k h n t, .int .i64 a1, .int .u8 a2] w (UpPost w) := by
  have HP : ∀ W, Nd W → Hid (Calls Tryd.prog 10 #[cv u s k h n t] W (PutPost W .u8 x 0)) := fun W h' => by have := put4_any u s k h n t W h' _ P0; exact this
  obtain ⟨i0, hi, hz0, hz1, hz2⟩ := info_parts info5
  have hl' : decide ((1000 : Int) < (t.size : Int)) = false := by simpa using hl
  clear P0 hl
  go_enter Tryd.func5, Tryd.ntmps5
  go_wp2_with fail
  have BW : Below w.heap.size w (w.alloc (.cells #[.int .i64 u, .int .i64 s, .int .i64 k, .int .i64 h, .int .i64 n, .string t] 23)) := (Below.refl _ _).alloc (Nat.le_refl _) _
  have Z0 : (w.alloc (.cells #[.int .i64 u, .int .i64 s, .int .i64 k, .int .i64 h, .int .i64 n, .string t] 23)).heap.size = w.heap.size + 1 := by simp
  have C0 := cb_new w u s k h n t
  have N0 := hN.on BW
  generalize (w.alloc (.cells #[.int .i64 u, .int .i64 s, .int .i64 k, .int .i64 h, .int .i64 n, .string t] 23)) = W0 at *
  refine (awake_any W0 N0).mono ?_
  rintro e w1 ⟨rfl, B1⟩
  have N1 := N0.on B1
  have q1 := B1.size
  obtain ⟨p0, p1, p2, p3, p4, p5⟩ := C0.on B1 (by omega)
  go_wp2_with fail
  clear p0 p1 p2 p3 p4 p5
  refine (HP _ N1).out.mono ?_
  rintro e w2 ⟨A2, c2, rfl, ⟨S2, l2⟩, B2⟩
  have q2 := B2.size
  have N2 := N1.on B2
  have B02 : Below (w.heap.size + 1) W0 w2 := (B1.mono (by omega)).trans (B2.mono (by omega))
  go_wp2_with fail
  refine (HG1 w2 A2 c2 N2 S2 l2).out.mono ?_
  rintro e w3 ⟨rfl, B3⟩
  have q3 := B3.size
  have B03 : Below (w.heap.size + 1) W0 w3 := B02.trans (B3.mono (by omega))
  have S3 : Sl w3 w2.heap.size .u8 A2 x := S2.below B3
  have D4 := cb_new w3 u s k h n t
  have B04 : Below (w.heap.size + 1) W0 (w3.alloc (.cells #[.int .i64 u, .int .i64 s, .int .i64 k, .int .i64 h, .int .i64 n, .string t] 23)) := B03.alloc (by omega) _
  have S4 : Sl (w3.alloc (.cells #[.int .i64 u, .int .i64 s, .int .i64 k, .int .i64 h, .int .i64 n, .string t] 23)) w2.heap.size .u8 A2 x := S3.below ((Below.refl _ _).alloc (by omega) _)
  have Z4 : (w3.alloc (.cells #[.int .i64 u, .int .i64 s, .int .i64 k, .int .i64 h, .int .i64 n, .string t] 23)).heap.size = w3.heap.size + 1 := by simp
  have O4 := World.ownsRow_nil (w3.alloc (.cells #[.int .i64 u, .int .i64 s, .int .i64 k, .int .i64 h, .int .i64 n, .string t] 23)) (w3.heap.size + 1) 5 1
  clear S2 S3 B3 B2
  go_wp2_with (at_builtin; refine Hid.out ?_)
  unfold Hid
  generalize w3.alloc (.cells #[.int .i64 u, .int .i64 s, .int .i64 k, .int .i64 h, .int .i64 n, .string t] 23) = w4 at *
  refine wpList_app rfl (.const (.slice none 0 0)) (.tmp 42) 25 rfl (w3.heap.size + 1) 5 i0 (.int .u8 0) 1 Tryd.underlying25 hi hz0 hz1 hz2 rfl _ 0 [] rfl O4 w2.heap.size .u8 A2 c2 x rfl S4 (by unfold maxLen; omega) (by omega) (by omega) ?_
  intro v5 w5 own5' g5
  have own5 : w5.ownsRow (w3.heap.size + 1) 5 1 v5 x.length (x.map (Value.int .u8)) := by simpa using own5'
  have G5 : Below (w3.heap.size + 1) w4 w5 := (Below.refl _ _).grown g5 (by omega) (fun q hq => (O4.lt q hq).1)
  clear own5' g5 O4
  have q5 := G5.size
  obtain ⟨A5, c5, rfl⟩ := own_form own5
  go_wp2_with (at_builtin; refine Hid.out ?_)
  unfold Hid
  refine wpList_app rfl (.tmp 43) (.tmp 45) 25 rfl (w3.heap.size + 1) 5 i0 (.int .u8 0) 1 Tryd.underlying25 hi hz0 hz1 hz2 rfl _ x.length (x.map (Value.int .u8)) rfl (own5.alloc _) (w5.heap.size + 1) .u8 (some ⟨w5.heap.size, 0, none⟩) 1 [a2] rfl (one_u8 w5 a2) (by unfold maxLen; simp; omega) (by simp; omega) (by simp; omega) ?_
  intro v6 w6 own6' g6
  have own6 : w6.ownsRow (w3.heap.size + 1) 5 1 v6 (x ++ [a2]).length ((x ++ [a2]).map (Value.int .u8)) := by simpa using own6'
  have G6 : Below (w3.heap.size + 1) w4 w6 := (G5.alloc (by omega) (.cells #[.int .u8 a2] 5)).grown g6 (by simp; omega) (fun q hq => ((own5.alloc (.cells #[.int .u8 a2] 5)).lt q hq).1)
  clear own6' g6 own5
  have q6 := G6.size
  obtain ⟨A6, c6, rfl, S6, l6⟩ := own_slice own6
  have B06 : Below (w.heap.size + 1) W0 w6 := B04.trans (G6.mono (by omega))
  have N6 := N0.below B06 (by omega)
  have D6 : Cb w6 w3.heap.size u s k h n t := D4.on G6 (by omega)
  have S6x : Sl w6 w2.heap.size .u8 A2 x := S4.below (G6.mono (by omega))
  clear G6 G5 B04 S4 D4 own6
  generalize hy : x ++ [a2] = y at *
  go_wp2_with fail
  refine (HG2 w6 A6 c6 N6 S6 l6).out.mono ?_
  rintro e w7 ⟨rfl, B7⟩
  have q7 := B7.size
  have B07 : Below (w.heap.size + 1) W0 w7 := B06.trans (B7.mono (by omega))
  have D7 := D6.on B7 (by omega)
  have S7x := S6x.below (B7.mono (by omega))
  have D8 := D7.on ((Below.refl w7.heap.size w7).alloc (Nat.le_refl _) (.cells #[.int .i64 0, .int .i64 0, .int .i64 0, .int .i64 0, .int .i64 0, .string { data := #[] }] 23)) (by omega)
  have B08 : Below (w.heap.size + 1) W0 (w7.alloc (.cells #[.int .i64 0, .int .i64 0, .int .i64 0, .int .i64 0, .int .i64 0, .string { data := #[] }] 23)) := B07.alloc (by omega) _
  have S8x := S7x.below (w' := w7.alloc (.cells #[.int .i64 0, .int .i64 0, .int .i64 0, .int .i64 0, .int .i64 0, .string { data := #[] }] 23)) ((Below.refl _ _).alloc (by omega) _)
  have C7 := C0.on B07 (by omega)
  obtain ⟨p0, p1, p2, p3, p4, p5⟩ := C7
  obtain ⟨r0, r1, r2, r3, r4, r5⟩ := D7
  have y1 : w.heap.size < w7.heap.size := by omega
  have y2 : w3.heap.size < w7.heap.size := by omega
  clear S6 S6x D6 B06
  go_wp2
  go_ret
  exact ⟨rfl, BW.trans (B08.mono (by omega))⟩

set_option maxHeartbeats 1000000 in
theorem within (u s k h n : Int) (t : ByteArray) (j : Nat) (a2 : Int) (w : World) (hN : Nd w) (hl : ¬ (1000 : Int) < (t.size : Int)) (x : List Int) (hx : x.length ≤ 2000) (P0 : cpu u s k h n t = (x, 0))
    (HG1 : ∀ (W : World) (A : Option Addr) (c : Nat), Nd W → Sl W W.heap.size .u8 A x → x.length ≤ c → Hid (Calls Tryd.prog 16 #[.slice A x.length c] W fun e w' => e = .returned (.tuple #[cv u s k h n t, .int .i64 0]) ∧ Below W.heap.size W w'))
    (HG2 : ∀ (W : World) (A : Option Addr) (c : Nat), Nd W → Sl W W.heap.size .u8 A (x ++ [a2]) → (x ++ [a2]).length ≤ c → Hid (Calls Tryd.prog 16 #[.slice A (x ++ [a2]).length c] W fun e w' => e = .returned (.tuple #[cv 0 0 0 0 0 { data := #[] }, .int .i64 2]) ∧ Below W.heap.size W w')) (hj : j < x.length)
    (HG3 : ∀ (W : World) (A : Option Addr) (c : Nat), Nd W → Sl W W.heap.size .u8 A (x.take j) → j ≤ c → Hid (Calls Tryd.prog 16 #[.slice A j c] W fun e w' => e = .returned (.tuple #[cv 0 0 0 0 0 { data := #[] }, .int .i64 3]) ∧ Below W.heap.size W w')) : Calls Tryd.prog 5 #[cv u s k h n t, .int .i64 (j : Int), .int .u8 a2] w (UpPost w) := by
  have ha0 : decide ((j : Int) < 0) = false := by simp
  have ha1 : decide ((x.length : Int) ≤ (j : Int)) = false := by simp; omega
  have HP : ∀ W, Nd W → Hid (Calls Tryd.prog 10 #[cv u s k h n t] W (PutPost W .u8 x 0)) := fun W h' => by have := put4_any u s k h n t W h' _ P0; exact this
  obtain ⟨i0, hi, hz0, hz1, hz2⟩ := info_parts info5
  have hl' : decide ((1000 : Int) < (t.size : Int)) = false := by simpa using hl
  clear P0 hl
  go_enter Tryd.func5, Tryd.ntmps5
  go_wp2_with fail
  have BW : Below w.heap.size w (w.alloc (.cells #[.int .i64 u, .int .i64 s, .int .i64 k, .int .i64 h, .int .i64 n, .string t] 23)) := (Below.refl _ _).alloc (Nat.le_refl _) _
  have Z0 : (w.alloc (.cells #[.int .i64 u, .int .i64 s, .int .i64 k, .int .i64 h, .int .i64 n, .string t] 23)).heap.size = w.heap.size + 1 := by simp
  have C0 := cb_new w u s k h n t
  have N0 := hN.on BW
  generalize (w.alloc (.cells #[.int .i64 u, .int .i64 s, .int .i64 k, .int .i64 h, .int .i64 n, .string t] 23)) = W0 at *
  refine (awake_any W0 N0).mono ?_
  rintro e w1 ⟨rfl, B1⟩
  have N1 := N0.on B1
  have q1 := B1.size
  obtain ⟨p0, p1, p2, p3, p4, p5⟩ := C0.on B1 (by omega)
  go_wp2_with fail
  clear p0 p1 p2 p3 p4 p5
  refine (HP _ N1).out.mono ?_
  rintro e w2 ⟨A2, c2, rfl, ⟨S2, l2⟩, B2⟩
  have q2 := B2.size
  have N2 := N1.on B2
  have B02 : Below (w.heap.size + 1) W0 w2 := (B1.mono (by omega)).trans (B2.mono (by omega))
  go_wp2_with fail
  refine (HG1 w2 A2 c2 N2 S2 l2).out.mono ?_
  rintro e w3 ⟨rfl, B3⟩
  have q3 := B3.size
  have B03 : Below (w.heap.size + 1) W0 w3 := B02.trans (B3.mono (by omega))
  have S3 : Sl w3 w2.heap.size .u8 A2 x := S2.below B3
  have D4 := cb_new w3 u s k h n t
  have B04 : Below (w.heap.size + 1) W0 (w3.alloc (.cells #[.int .i64 u, .int .i64 s, .int .i64 k, .int .i64 h, .int .i64 n, .string t] 23)) := B03.alloc (by omega) _
  have S4 : Sl (w3.alloc (.cells #[.int .i64 u, .int .i64 s, .int .i64 k, .int .i64 h, .int .i64 n, .string t] 23)) w2.heap.size .u8 A2 x := S3.below ((Below.refl _ _).alloc (by omega) _)
  have Z4 : (w3.alloc (.cells #[.int .i64 u, .int .i64 s, .int .i64 k, .int .i64 h, .int .i64 n, .string t] 23)).heap.size = w3.heap.size + 1 := by simp
  have O4 := World.ownsRow_nil (w3.alloc (.cells #[.int .i64 u, .int .i64 s, .int .i64 k, .int .i64 h, .int .i64 n, .string t] 23)) (w3.heap.size + 1) 5 1
  clear S2 S3 B3 B2
  go_wp2_with (at_builtin; refine Hid.out ?_)
  unfold Hid
  generalize w3.alloc (.cells #[.int .i64 u, .int .i64 s, .int .i64 k, .int .i64 h, .int .i64 n, .string t] 23) = w4 at *
  refine wpList_app rfl (.const (.slice none 0 0)) (.tmp 42) 25 rfl (w3.heap.size + 1) 5 i0 (.int .u8 0) 1 Tryd.underlying25 hi hz0 hz1 hz2 rfl _ 0 [] rfl O4 w2.heap.size .u8 A2 c2 x rfl S4 (by unfold maxLen; omega) (by omega) (by omega) ?_
  intro v5 w5 own5' g5
  have own5 : w5.ownsRow (w3.heap.size + 1) 5 1 v5 x.length (x.map (Value.int .u8)) := by simpa using own5'
  have G5 : Below (w3.heap.size + 1) w4 w5 := (Below.refl _ _).grown g5 (by omega) (fun q hq => (O4.lt q hq).1)
  clear own5' g5 O4
  have q5 := G5.size
  obtain ⟨A5, c5, rfl⟩ := own_form own5
  go_wp2_with (at_builtin; refine Hid.out ?_)
  unfold Hid
  refine wpList_app rfl (.tmp 43) (.tmp 45) 25 rfl (w3.heap.size + 1) 5 i0 (.int .u8 0) 1 Tryd.underlying25 hi hz0 hz1 hz2 rfl _ x.length (x.map (Value.int .u8)) rfl (own5.alloc _) (w5.heap.size + 1) .u8 (some ⟨w5.heap.size, 0, none⟩) 1 [a2] rfl (one_u8 w5 a2) (by unfold maxLen; simp; omega) (by simp; omega) (by simp; omega) ?_
  intro v6 w6 own6' g6
  have own6 : w6.ownsRow (w3.heap.size + 1) 5 1 v6 (x ++ [a2]).length ((x ++ [a2]).map (Value.int .u8)) := by simpa using own6'
  have G6 : Below (w3.heap.size + 1) w4 w6 := (G5.alloc (by omega) (.cells #[.int .u8 a2] 5)).grown g6 (by simp; omega) (fun q hq => ((own5.alloc (.cells #[.int .u8 a2] 5)).lt q hq).1)
  clear own6' g6 own5
  have q6 := G6.size
  obtain ⟨A6, c6, rfl, S6, l6⟩ := own_slice own6
  have B06 : Below (w.heap.size + 1) W0 w6 := B04.trans (G6.mono (by omega))
  have N6 := N0.below B06 (by omega)
  have D6 : Cb w6 w3.heap.size u s k h n t := D4.on G6 (by omega)
  have S6x : Sl w6 w2.heap.size .u8 A2 x := S4.below (G6.mono (by omega))
  clear G6 G5 B04 S4 D4 own6
  generalize hy : x ++ [a2] = y at *
  go_wp2_with fail
  refine (HG2 w6 A6 c6 N6 S6 l6).out.mono ?_
  rintro e w7 ⟨rfl, B7⟩
  have q7 := B7.size
  have B07 : Below (w.heap.size + 1) W0 w7 := B06.trans (B7.mono (by omega))
  have D7 := D6.on B7 (by omega)
  have S7x := S6x.below (B7.mono (by omega))
  have D8 := D7.on ((Below.refl w7.heap.size w7).alloc (Nat.le_refl _) (.cells #[.int .i64 0, .int .i64 0, .int .i64 0, .int .i64 0, .int .i64 0, .string { data := #[] }] 23)) (by omega)
  have B08 : Below (w.heap.size + 1) W0 (w7.alloc (.cells #[.int .i64 0, .int .i64 0, .int .i64 0, .int .i64 0, .int .i64 0, .string { data := #[] }] 23)) := B07.alloc (by omega) _
  have S8x := S7x.below (w' := w7.alloc (.cells #[.int .i64 0, .int .i64 0, .int .i64 0, .int .i64 0, .int .i64 0, .string { data := #[] }] 23)) ((Below.refl _ _).alloc (by omega) _)
  have C7 := C0.on B07 (by omega)
  obtain ⟨p0, p1, p2, p3, p4, p5⟩ := C7
  obtain ⟨r0, r1, r2, r3, r4, r5⟩ := D7
  have y1 : w.heap.size < w7.heap.size := by omega
  have y2 : w3.heap.size < w7.heap.size := by omega
  clear S6 S6x D6 B06
  obtain ⟨A9, hr1, hr2, S9⟩ := head_run S8x c2 j j rfl (by omega) l2
  clear S7x S8x
  go_wp2_with fail
  have Z8 : (w7.alloc (.cells #[.int .i64 0, .int .i64 0, .int .i64 0, .int .i64 0, .int .i64 0, .string { data := #[] }] 23)).heap.size = w7.heap.size + 1 := by simp
  generalize w7.alloc (.cells #[.int .i64 0, .int .i64 0, .int .i64 0, .int .i64 0, .int .i64 0, .string { data := #[] }] 23) = w8 at *
  have N8 := N0.below B08 (by omega)
  refine (HG3 w8 A9 c2 N8 (S9.mono (by omega)) (by omega)).out.mono ?_
  rintro e w9 ⟨rfl, B9⟩
  clear p0 p1 p2 p3 p4 p5 r0 r1 r2 r3 r4 r5
  go_wp2
  go_ret
  have : Below w.heap.size w w9 := BW.trans ((B08.mono (by omega)).trans (B9.mono (by omega)))
  exact ⟨rfl, this.alloc this.size _⟩

theorem walk (u s k h n : Int) (t : ByteArray) (a1 a2 : Int) (w : World) (hN : Nd w) (w1 : (Lit.int .i64 a1).wf = true) (w2 : (Lit.int .u8 a2).wf = true) : Calls Tryd.prog 5 #[cv u s k h n t, .int .i64 a1, .int .u8 a2] w (UpPost w) := by
  by_cases hl : (1000 : Int) < (t.size : Int)
  · exact long u s k h n t a1 a2 w hN hl
  rcases hm : mayB u s k h n t.size with _ | _
  · exact refused u s k h n t a1 a2 w hN hl 1 (by decide) (cpu_no hm)
  have hb := cbs_byte u s k h n t
  have hm' : mayB u s k h n (bt t).length = true := by rw [bt_len]; exact hm
  have P0 := cpu_yes hm
  have h1 := cg_back hm'
  have h2 := cg_put [a2] hm'
  have h3 := fun c => cg_cut c hm'
  rw [← cbs_eq] at h1 h2
  simp only [← cbs_eq] at h3
  rw [fin_more (by simp)] at h2
  have hlen : (cbs u s k h n t).length ≤ 2000 := by
    obtain ⟨hok, h64, h6⟩ := may_ok hm
    have := pb_le _ hok
    rw [cbs, List.length_append, bt_len]
    omega
  generalize cbs u s k h n t = x at *
  have hb2 : ∀ y ∈ x ++ [a2], 0 ≤ y ∧ y ≤ 255 := by
    intro y hy
    rw [List.mem_append, List.mem_singleton] at hy
    rcases hy with hy | rfl
    · exact hb y hy
    · exact byte_of w2
  have HG1 : ∀ (W : World) (A : Option Addr) (c : Nat), Nd W → Sl W W.heap.size .u8 A x → x.length ≤ c → Hid (Calls Tryd.prog 16 #[.slice A x.length c] W fun e w' => e = .returned (.tuple #[cv u s k h n t, .int .i64 0]) ∧ Below W.heap.size W w') := fun W A c h' hs hc => by
    have := get4_any A c x W h' (by omega) hc hs hb _ h1
    have e : strOfNums (bt t) = t := str_bt t
    unfold GPost at this
    simp only [e] at this
    exact this
  have HG2 : ∀ (W : World) (A : Option Addr) (c : Nat), Nd W → Sl W W.heap.size .u8 A (x ++ [a2]) → (x ++ [a2]).length ≤ c → Hid (Calls Tryd.prog 16 #[.slice A (x ++ [a2]).length c] W fun e w' => e = .returned (.tuple #[cv 0 0 0 0 0 { data := #[] }, .int .i64 2]) ∧ Below W.heap.size W w') := fun W A c h' hs hc =>
    get4_any A c (x ++ [a2]) W h' (by simp; omega) hc hs hb2 (noG 2) h2
  by_cases ha0 : a1 < 0
  · exact neg u s k h n t a1 a2 w hN hl x hlen P0 HG1 HG2 ha0
  by_cases ha : (x.length : Int) ≤ a1
  · exact past u s k h n t a1 a2 w hN hl x hlen P0 HG1 HG2 ha0 ha
  obtain ⟨j, rfl⟩ : ∃ j : Nat, a1 = (j : Int) := ⟨a1.toNat, by omega⟩
  refine within u s k h n t j a2 w hN hl x hlen P0 HG1 HG2 (by omega) (fun W A c h' hs hc => ?_)
  have hlj : (x.take j).length = j := by rw [List.length_take]; omega
  have := get4_any A c (x.take j) W h' (by omega) (by omega) hs (fun y hy => hb y (List.mem_of_mem_take hy)) (noG 3) (h3 j (by omega))
  rw [hlj] at this
  exact this

set_option maxRecDepth 100000 in
theorem lifted (os : Os) (started : os.Started) (H : Type) (enc : TypeId × Value → H) :
    ReturnsInHanded {} Tryd.checked os 5 .any (fun w args => (Rows.commandBackSpec.pre enc Tryd.prog Tryd.f5 [] false w args ∧ laidMetH Tryd.prog laid4 w) ∧ sizedMet enc Tryd.prog Tryd.f5 (OpenSpec.ofChange Rows.commandBackSpec) false w args)
      (Rows.commandBackSpec.post enc Tryd.prog Tryd.f5 false true false false) := by
  refine returnsInHanded_of_change_and (C := Tryd.checked) (X := fun w _ => laidMetH Tryd.prog laid4 w) (fun _ _ _ hh h => h.of_heap hh) own started (by kernel_rfl) Tryd.func5
    (ChangeSpec.witness_shaped (enc := enc) (C := Tryd.checked) (os := os) (X := fun w _ => laidMetH Tryd.prog laid4 w) false (World.doorLaid Tryd.prog 18 os) #[.agg #[.int .i64 0, .int .i64 0, .int .i64 0, .int .i64 0, .int .i64 0, .string ⟨#[]⟩], .int .i64 0, .int .u8 0] 8 rfl (World.shaped_of_RefB (by kernel_rfl) (by kernel_rfl)) (by kernel_rfl) (by kernel_rfl) (by kernel_rfl) (door_met os _)) ?_
  intro W base args ds gs before hval0 hW _ _ hL _
  have hN := nd_of_laid hL
  have hval : ∀ (j : Nat) t v, Tryd.f5.params[j]? = some t → args[j]? = some v → Value.okWide Tryd.prog W .any base t v := hval0
  have hW' := hW
  obtain ⟨p, q, hA0, hV, rfl, hfz, hnd⟩ := hW
  have hA : DataW.TrodAll enc Tryd.prog W 0 (fun _ => true) true Tryd.f5.params.toList args.toList ds p := hA0
  rw [Tryd.params5] at hA hval
  obtain ⟨v0, vs0, d0, ds0, p0, q0, hargs, rfl, rfl, h0, r0⟩ := trodAll_cons hA
  obtain ⟨v1, vs1, d1, ds1, p1, q1, rfl, rfl, rfl, h1, r1⟩ := trodAll_cons r0
  obtain ⟨v2, vs2, d2, ds2, p2, q2, rfl, rfl, rfl, h2, r2⟩ := trodAll_cons r1
  obtain ⟨rfl, rfl, rfl⟩ := trodAll_nil r2
  obtain rfl : args = #[v0, v1, v2] := by cases args; simp_all
  obtain ⟨rfl, rfl⟩ := trodVars_none hV
  have k0' := h0
  have lt0 : ∀ x ∈ p0, x.block < W.heap.size := by obtain ⟨m, hm⟩ := k0'; exact DataW.trod_lt m _ _ _ hm
  obtain ⟨u0, s0, k0, h0c, n0, t0, rfl⟩ := open_cmd (hval 0 23 v0 rfl rfl) h0
  obtain ⟨a1, rfl, rfl, rfl, w1⟩ := open_int Tryd.underlying3 (hval 1 3 v1 rfl rfl) h1
  obtain ⟨a2, rfl, rfl, rfl, w2⟩ := open_int Tryd.underlying5 (hval 2 5 v2 rfl rfl) h2
  clear hA0 hval0
  refine (walk u0 s0 k0 h0c n0 t0 a1 a2 W hN  w1 w2).mono fun e W' ⟨he, bel⟩ => ?_
  subst he
  exact ⟨_, rfl, _, _, _, [], _, [], hW', trodAll_mk1 (shut_bool Tryd.underlying4 _), (trodAll_cons_mk (Below.trod laidOut (by kernel_rfl) (of_decide_eq_true (by kernel_rfl)) k0' bel lt0) (trodAll_cons_mk (shut_int Tryd.underlying3 w1) (trodAll_cons_mk (shut_int Tryd.underlying5 w2) trodAll_mk0))), rfl, bel.frame _, fun h => by cases h⟩

theorem over : Rows.CommandBackSaid :=
  OpenClaim.holds_of_wide 5 Tryd.f5 rfl rfl rfl rfl rfl rfl rfl ⟨rfl, rfl, rfl, rfl, rfl⟩ rfl rfl rfl rfl rfl (by kernel_rfl) Tryd.func5 (by kernel_rfl)
    (of_decide_eq_true (by kernel_rfl)) (by unfold Func.isWrapper; first | (rw [if_pos (by decide +kernel)]; kernel_rfl) | (rw [if_neg (by decide +kernel)]; exact ⟨rfl, rfl⟩))
    (fun os started H enc _ => lifted os started H enc)

theorem proved : Rows.CommandBackCardSaid :=
  Claim7.holds_tied_plain_at .later [] [.data] true (true, "93fff19bce4a84e988bf6e2625e0608d0039abc37830b3507fd65811e11668e5") false
    over (fun _ h => by cases h) (by kernel_rfl) (fun _ h => by cases h) commandBack_row_tie rfl ⟨rfl, rfl⟩ (by kernel_rfl) rfl
    (fun f fn hf hfn => by
      obtain rfl : f = 5 := Option.some.inj ((show Tryd.prog.funcNamed "colloquy/colloquylaw04.CommandBack" = some 5 by kernel_rfl).symm.trans hf) |>.symm
      obtain rfl : fn = Tryd.f5 := (Option.some.inj (Tryd.func5.symm.trans hfn)).symm
      exact ⟨by kernel_rfl, fun j t ht => by
        rw [Tryd.params5] at ht
        have hm : t ∈ [23, 3, 5] := by simpa using Array.mem_of_getElem? ht
        have hall : ([23, 3, 5].all fun u => !Tryd.prog.wantsStandIn u) = true := by kernel_rfl
        exact (show Tryd.prog.wantsStandIn t = false by simpa using List.all_eq_true.1 hall t hm)⟩)
    (by kernel_rfl)
#print axioms proved
end Go.Proofs.YteajbcngimccmaaDoor.commandBack
