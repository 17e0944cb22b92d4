/-
  The walk of record.Put: the bytes of a record, or the error that refuses it. Conditions: the body's bytes are bytes.
-/
import Derived.Test.YtaghbokgcpkjjaaRget3
namespace Go.Proofs.Ytaghbokgcpkjjaa
open Go.RowKit

theorem put3_arg (k : Int) (A : Option Addr) (n c : Nat) (w : World) (h : k < 0 ∨ 1048576 < k) :
    Calls Try.prog 11 #[.agg #[.int .i64 k, .slice A n c]] w (PutPost w .u8 [] 1) := by
  by_cases h0 : k < 0
  · go_enter Try.func11, Try.ntmps11
    go_wp2
    go_ret2
    exact ⟨none, 0, rfl, ⟨Sl.nil, Nat.le_refl _⟩, (Below.refl _ _).alloc (Nat.le_refl _) _⟩
  · have h1 : decide (k < 0) = false := by simpa using h0
    have h2 : 1048576 < k := by omega
    clear h
    go_enter Try.func11, Try.ntmps11
    go_wp2
    go_ret2
    exact ⟨none, 0, rfl, ⟨Sl.nil, Nat.le_refl _⟩, (Below.refl _ _).alloc (Nat.le_refl _) _⟩

theorem put3_full (k : Int) (A : Option Addr) (n c : Nat) (w : World) (h0 : 0 ≤ k) (h1 : k ≤ 1048576) (hn : 1024 < n) :
    Calls Try.prog 11 #[.agg #[.int .i64 k, .slice A n c]] w (PutPost w .u8 [] 7) := by
  have h2 : decide (k < 0) = false := by simpa using h0
  have h3 : decide (1048576 < k) = false := by simpa using h1
  have h4 : (1024 : Int) < (n : Int) := by omega
  go_enter Try.func11, Try.ntmps11
  go_wp2
  go_ret2
  exact ⟨none, 0, rfl, ⟨Sl.nil, Nat.le_refl _⟩, (Below.refl _ _).alloc (Nat.le_refl _) _⟩

theorem two_sl (W : World) (x y : Int) : Sl (W.alloc (.cells #[.int .i64 x, .int .i64 y] 3)) (W.heap.size + 1) .i64 (some ⟨W.heap.size, 0, none⟩) [x, y] :=
  .inr ⟨W.heap.size, 0, rfl, by omega, fun j z hz => by
    match j, hz with
    | 0, hz => simp at hz; subst hz; simp
    | 1, hz => simp at hz; subst hz; simp⟩

theorem own_below {w w' : World} {base : Nat} {e : TypeId} {size : Nat} {v : Value} {n : Nat} {xs : List Value} (h : w.ownsRow base e size v n xs) (hb : Below w.heap.size w w') : w'.ownsRow base e size v n xs :=
  h.kept (row := none) ⟨hb.os, hb.tape, hb.output, hb.size, fun q hq _ => hb.block q hq⟩ (by cases Value.ownBlock _ <;> simp)

theorem pb_two (k n : Int) : pb [k, n] = vb k 0 ++ vb n 0 := by simp [pb]

set_option maxHeartbeats 1000000 in
theorem put3_ok (k : Int) (A : Option Addr) (c : Nat) (xs : List Int) (w : World) (h0 : 0 ≤ k) (h1 : k ≤ 1048576) (hl : xs.length ≤ 1024) (hs : Sl w w.heap.size .u8 A xs) (hx : ∀ x ∈ xs, 0 ≤ x ∧ x ≤ 255) :
    Calls Try.prog 11 #[.agg #[.int .i64 k, .slice A xs.length c]] w (PutPost w .u8 (rb k xs) 0) := by
  obtain ⟨i0, hi, hz0, hz1, hz2⟩ := info_parts info5
  have h2 : decide (k < 0) = false := by simpa using h0
  have h3 : decide (1048576 < k) = false := by simpa using h1
  have h4 : decide ((1024 : Int) < (xs.length : Int)) = false := by simp; omega
  have HX := Lib.hid hx
  have hok : okAll [k, (xs.length : Int)] = true := by simp [okAll, okB]; omega
  have hlen := (rb_bd (k := k) h1 hl).2
  clear hx
  go_enter Try.func11, Try.ntmps11
  go_wp2_with fail
  have BW : Below w.heap.size w (w.alloc (.cells #[.int .i64 k, .slice A xs.length c] 24)) := (Below.refl _ _).alloc (Nat.le_refl _) _
  have CW : (w.alloc (.cells #[.int .i64 k, .slice A xs.length c] 24)).cell? ⟨w.heap.size, 1, none⟩ = some (.slice A xs.length c) := by simp
  have ZW : (w.alloc (.cells #[.int .i64 k, .slice A xs.length c] 24)).heap.size = w.heap.size + 1 := by simp
  generalize (w.alloc (.cells #[.int .i64 k, .slice A xs.length c] 24)) = W at *
  have T2 := two_sl W k xs.length
  have B1 : Below w.heap.size w (W.alloc (.cells #[.int .i64 k, .int .i64 (xs.length : Int)] 3)) := BW.alloc BW.size _
  have Z1 : (W.alloc (.cells #[.int .i64 k, .int .i64 (xs.length : Int)] 3)).heap.size = w.heap.size + 2 := by simp [ZW]
  have C1 : (W.alloc (.cells #[.int .i64 k, .int .i64 (xs.length : Int)] 3)).cell? ⟨w.heap.size, 1, none⟩ = some (.slice A xs.length c) := by go_cell
  rw [ZW] at T2
  generalize (W.alloc (.cells #[.int .i64 k, .int .i64 (xs.length : Int)] 3)) = W1 at *
  refine (putall_yes (some ⟨w.heap.size + 1, 0, none⟩) 2 [k, (xs.length : Int)] W1 (by simp) (T2.mono (by omega)) hok).mono ?_
  rintro e w2 ⟨v, rfl, hown2, q2⟩
  obtain ⟨A2, c2, rfl⟩ := own_form hown2
  have c2' : w2.cell? ⟨w.heap.size, 1, none⟩ = some (.slice A xs.length c) := (q2.cell (p := ⟨w.heap.size, 1, none⟩) (by show w.heap.size < W1.heap.size; omega)).trans C1
  have q2s := q2.size
  have s2 : Sl w2 w2.heap.size .u8 A xs := ((hs.below B1).mono (by omega)).below q2 |>.mono q2s
  clear T2 CW BW C1 ZW
  go_wp2_with fail
  refine (sum_any A c xs w2 (by omega) s2 HX.out).mono ?_
  rintro e w3 ⟨rfl, q3⟩
  have q3s := q3.size
  have hown3 := own_below hown2 q3
  have c3' : w3.cell? ⟨w.heap.size, 1, none⟩ = some (.slice A xs.length c) := (q3.cell (p := ⟨w.heap.size, 1, none⟩) (by show w.heap.size < w2.heap.size; omega)).trans c2'
  have s3 : Sl w3 w3.heap.size .u8 A xs := (s2.below q3).mono q3s
  have Q3 : Below w.heap.size w w3 := (B1.trans (q2.mono (by omega))).trans (q3.mono (by omega))
  have hpl : (pb [k, (xs.length : Int)]).length + 4 + xs.length ≤ 2000 := by
    have := rb_len k xs
    have e2 : (pb [k, (xs.length : Int)]).length = (vb k 0).length + (vb (xs.length : Int) 0).length := by rw [pb_two, List.length_append]
    omega
  have sb := sm_bd xs
  have HA := Lib.hid (apsum_any W1.heap.size _ (sm xs) (pb [k, (xs.length : Int)]) w3 (by omega) hown3 sb.1 sb.2 (by omega))
  have hrb : rb k xs = (pb [k, (xs.length : Int)] ++ su (sm xs)) ++ xs := by rw [pb_two, rb]; simp only [List.append_assoc]
  have HRB := Lib.hid hrb
  have hyl : (pb [k, (xs.length : Int)] ++ su (sm xs)).length + xs.length ≤ 2000 := by rw [List.length_append, su_len]; omega
  have HS3 : Hid (∀ w4, Below W1.heap.size w3 w4 → Sl w4 w4.heap.size .u8 A xs) := fun w4 q => (((hs.below (Q3)).mono (B' := W1.heap.size) (by omega)).below q).mono (Nat.le_trans (by omega) q.size)
  clear hrb hown2 hown3 q2 q3 c2' hs hok hlen hpl B1 s2
  generalize pb [k, (xs.length : Int)] ++ su (sm xs) = ys at HA HRB hyl
  go_wp2_with (first | (go_at_call 19; refine HA.out.mono ?_; rintro e w4 ⟨v4, rfl, hown4, q4⟩; have hq4 := q4.size; have c4' : w4.cell? ⟨w.heap.size, 1, none⟩ = some (.slice A xs.length c) := (q4.cell (p := ⟨w.heap.size, 1, none⟩) (by show w.heap.size < W1.heap.size; omega)).trans c3') | (at_builtin; refine wpList_app rfl (.tmp 36) (.tmp 38) 22 rfl W1.heap.size 5 i0 (.int .u8 0) 1 Try.underlying22 hi hz0 hz1 hz2 rfl _ ys.length (ys.map (Value.int .u8)) rfl hown4 w4.heap.size .u8 A c xs rfl (HS3.out w4 q4) (by unfold maxLen; omega) (by omega) (by omega) ?_; intro v5 w5 hown5 hgrow5))
  go_ret2
  rw [HRB.out]
  have hown6 : w5.ownsRow W1.heap.size 5 1 v5 (ys ++ xs).length ((ys ++ xs).map (Value.int .u8)) := by simpa using hown5
  obtain ⟨A5, c5, rfl, hs5⟩ := own_slice hown6
  have Q4 : Below w.heap.size w w4 := Q3.trans (q4.mono (by omega))
  exact ⟨A5, c5, rfl, hs5, Q4.grown hgrow5 Q4.size (fun q hq => by have := (hown4.lt q hq).1; omega)⟩

/-- What Put answers: the bytes, and the error. -/
def pu (k : Int) (xs : List Int) : List Int × Int := if k < 0 ∨ 1048576 < k then ([], 1) else if 1024 < xs.length then ([], 7) else (rb k xs, 0)
theorem pu_arg {k : Int} {xs : List Int} (h : k < 0 ∨ 1048576 < k) : pu k xs = ([], 1) := by rw [pu, if_pos h]
theorem pu_full {k : Int} {xs : List Int} (h : ¬ (k < 0 ∨ 1048576 < k)) (hl : 1024 < xs.length) : pu k xs = ([], 7) := by rw [pu, if_neg h, if_pos hl]
theorem pu_ok {k : Int} {xs : List Int} (h : ¬ (k < 0 ∨ 1048576 < k)) (hl : ¬ 1024 < xs.length) : pu k xs = (rb k xs, 0) := by rw [pu, if_neg h, if_neg hl]

theorem put3_any (k : Int) (A : Option Addr) (c : Nat) (xs : List Int) (w : World) (hs : Sl w w.heap.size .u8 A xs) (hx : ∀ x ∈ xs, 0 ≤ x ∧ x ≤ 255) (r : List Int × Int) (hr : pu k xs = r) :
    Calls Try.prog 11 #[.agg #[.int .i64 k, .slice A xs.length c]] w (PutPost w .u8 r.1 r.2) := by
  by_cases h : k < 0 ∨ 1048576 < k
  · rw [pu_arg h] at hr; subst hr
    exact put3_arg k A xs.length c w h
  · by_cases hl : 1024 < xs.length
    · rw [pu_full h hl] at hr; subst hr
      exact put3_full k A xs.length c w (by omega) (by omega) hl
    · rw [pu_ok h hl] at hr; subst hr
      exact put3_ok k A c xs w (by omega) (by omega) (by omega) hs hx

end Go.Proofs.Ytaghbokgcpkjjaa
