/-
  The walk of the document's Put of a record: it answers what record.Put answers. Conditions: the body's bytes are bytes.
-/
import Derived.Test.YtaghbokgcpkjjaaSlices
import Derived.Test.YtaghbokgcpkjjaaRput
namespace Go.Proofs.Ytaghbokgcpkjjaa
open Go.RowKit

theorem rput3_arg (k : Int) (A : Option Addr) (n c : Nat) (w : World) (h : k < 0 ∨ 1048576 < k) :
    Calls Try.prog 12 #[.agg #[.int .i64 k, .slice A n c]] w (PutPost w .u8 [] 1) := by
  by_cases h0 : k < 0
  · go_enter Try.func12, Try.ntmps12
    go_wp2
    go_ret2
    exact ⟨none, 0, rfl, ⟨Sl.nil, Nat.le_refl _⟩, (Below.refl _ _).alloc (Nat.le_refl _) _⟩
  · have h1 : decide (k < 0) = false := by simpa using h0
    have h2 : 1048576 < k := by omega
    clear h
    go_enter Try.func12, Try.ntmps12
    go_wp2
    go_ret2
    exact ⟨none, 0, rfl, ⟨Sl.nil, Nat.le_refl _⟩, (Below.refl _ _).alloc (Nat.le_refl _) _⟩

theorem rput3_full (k : Int) (A : Option Addr) (n c : Nat) (w : World) (h0 : 0 ≤ k) (h1 : k ≤ 1048576) (hn : 1024 < n) :
    Calls Try.prog 12 #[.agg #[.int .i64 k, .slice A n c]] w (PutPost w .u8 [] 7) := by
  have h2 : decide (k < 0) = false := by simpa using h0
  have h3 : decide (1048576 < k) = false := by simpa using h1
  have h4 : (1024 : Int) < (n : Int) := by omega
  go_enter Try.func12, Try.ntmps12
  go_wp2
  go_ret2
  exact ⟨none, 0, rfl, ⟨Sl.nil, Nat.le_refl _⟩, (Below.refl _ _).alloc (Nat.le_refl _) _⟩

theorem rputall_yes (A : Option Addr) (c : Nat) (l : List Int) (w : World) (hl : l.length ≤ 10000) (hs : Sl w w.heap.size .i64 A l) (hok : okAll l = true) : Calls Try.prog 21 #[.slice A l.length c] w (OwnPost w (pb l) 0) :=
  (rputall_any A c l w hl hs).mono fun _ _ h => by
    rcases h with ⟨_, h⟩ | ⟨h, _⟩
    · exact h
    · rw [hok] at h; cases h

theorem four_sl (W : World) (s : Int) : Sl (W.alloc (.cells #[.int .u8 (s / 16777216), .int .u8 (s / 65536 % 256), .int .u8 (s / 256 % 256), .int .u8 (s % 256)] 5)) (W.heap.size + 1) .u8 (some ⟨W.heap.size, 0, none⟩) (su s) :=
  .inr ⟨W.heap.size, 0, rfl, by omega, fun j z hz => by
    match j, hz with
    | 0, hz => simp [su] at hz; subst hz; simp
    | 1, hz => simp [su] at hz; subst hz; simp
    | 2, hz => simp [su] at hz; subst hz; simp
    | 3, hz => simp [su] at hz; subst hz; simp⟩

set_option maxHeartbeats 1000000 in
theorem rput3_ok (k : Int) (A : Option Addr) (c : Nat) (xs : List Int) (w : World) (h0 : 0 ≤ k) (h1 : k ≤ 1048576) (hl : xs.length ≤ 1024) (hs : Sl w w.heap.size .u8 A xs) (hx : ∀ x ∈ xs, 0 ≤ x ∧ x ≤ 255) :
    Calls Try.prog 12 #[.agg #[.int .i64 k, .slice A xs.length c]] w (PutPost w .u8 (rb k xs) 0) := by
  obtain ⟨i0, hi, hz0, hz1, hz2⟩ := info_parts info5
  have h2 : decide (k < 0) = false := by simpa using h0
  have h3 : decide (1048576 < k) = false := by simpa using h1
  have h4 : decide ((1024 : Int) < (xs.length : Int)) = false := by simp; omega
  have HX := Lib.hid hx
  have hok : okAll [k, (xs.length : Int)] = true := by simp [okAll, okB]; omega
  have hlen := (rb_bd (k := k) h1 hl).2
  clear hx
  go_enter Try.func12, Try.ntmps12
  go_wp2_with fail
  have BW : Below w.heap.size w (w.alloc (.cells #[.int .i64 k, .slice A xs.length c] 24)) := (Below.refl _ _).alloc (Nat.le_refl _) _
  have CW : (w.alloc (.cells #[.int .i64 k, .slice A xs.length c] 24)).cell? ⟨w.heap.size, 1, none⟩ = some (.slice A xs.length c) := by simp
  have ZW : (w.alloc (.cells #[.int .i64 k, .slice A xs.length c] 24)).heap.size = w.heap.size + 1 := by simp
  generalize (w.alloc (.cells #[.int .i64 k, .slice A xs.length c] 24)) = W at *
  have T2 := two_sl W k xs.length
  have B1 : Below w.heap.size w (W.alloc (.cells #[.int .i64 k, .int .i64 (xs.length : Int)] 3)) := BW.alloc BW.size _
  have Z1 : (W.alloc (.cells #[.int .i64 k, .int .i64 (xs.length : Int)] 3)).heap.size = w.heap.size + 2 := by simp [ZW]
  have C1 : (W.alloc (.cells #[.int .i64 k, .int .i64 (xs.length : Int)] 3)).cell? ⟨w.heap.size, 1, none⟩ = some (.slice A xs.length c) := by go_cell
  rw [ZW] at T2
  generalize (W.alloc (.cells #[.int .i64 k, .int .i64 (xs.length : Int)] 3)) = W1 at *
  refine (rputall_yes (some ⟨w.heap.size + 1, 0, none⟩) 2 [k, (xs.length : Int)] W1 (by simp) (T2.mono (by omega)) hok).mono ?_
  rintro e w2 ⟨v, rfl, hown2, q2⟩
  obtain ⟨A2, c2, rfl⟩ := own_form hown2
  have c2' : w2.cell? ⟨w.heap.size, 1, none⟩ = some (.slice A xs.length c) := (q2.cell (p := ⟨w.heap.size, 1, none⟩) (by show w.heap.size < W1.heap.size; omega)).trans C1
  have q2s := q2.size
  have s2 : Sl w2 w2.heap.size .u8 A xs := ((hs.below B1).mono (by omega)).below q2 |>.mono q2s
  have Q2 : Below w.heap.size w w2 := B1.trans (q2.mono (by omega))
  have hpl : (pb [k, (xs.length : Int)]).length + 4 + xs.length ≤ 2000 := by
    have := rb_len k xs
    have e2 : (pb [k, (xs.length : Int)]).length = (vb k 0).length + (vb (xs.length : Int) 0).length := by rw [pb_two, List.length_append]
    omega
  have sb := sm_bd xs
  have hrb : rb k xs = (pb [k, (xs.length : Int)] ++ su (sm xs)) ++ xs := by rw [pb_two, rb]; simp only [List.append_assoc]
  have HRB := Lib.hid hrb
  have HS := Lib.hid (rsum_any A c xs w2 w2.heap.size (by omega) s2 HX.out)
  have HF := Lib.hid (four_sl w2 (sm xs))
  have HS3 : Hid (∀ w4, Below w.heap.size w w4 → Sl w4 w4.heap.size .u8 A xs) := fun w4 q => (hs.below q).mono q.size
  obtain ⟨s', hs'⟩ : ∃ s', sm xs = s' := ⟨_, rfl⟩
  rw [hs'] at HRB HS HF sb
  obtain ⟨sb0, sb1⟩ := sb
  obtain ⟨ys, hys⟩ : ∃ ys, pb [k, (xs.length : Int)] = ys := ⟨_, rfl⟩
  rw [hys] at hown2 HRB hpl ⊢
  have ha2 : (w2.alloc (.cells #[.int .u8 (s' / 16777216), .int .u8 (s' / 65536 % 256), .int .u8 (s' / 256 % 256), .int .u8 (s' % 256)] 5)).cell? ⟨w.heap.size, 1, none⟩ = some (.slice A xs.length c) := (World.cell?_alloc_lt w2 _ ⟨w.heap.size, 1, none⟩ (by show w.heap.size < w2.heap.size; omega)).trans c2'
  clear T2 CW BW C1 ZW hrb hok hlen hs' hs hys
  go_wp2_with (first | (go_at_call 22; refine HS.out.mono ?_; rintro e w' ⟨rfl, rfl⟩) | (at_builtin; refine wpList_app rfl (.tmp 32) (.tmp 47) 22 rfl W1.heap.size 5 i0 (.int .u8 0) 1 Try.underlying22 hi hz0 hz1 hz2 rfl _ ys.length (ys.map (Value.int .u8)) rfl (hown2.alloc _) (w2.heap.size + 1) .u8 (some ⟨w2.heap.size, 0, none⟩) 4 (su s') rfl HF.out (by unfold maxLen; rw [su_len]; omega) (by rw [su_len]; omega) (by simp; omega) ?_; intro v4 w4 hown4 hgrow4; have Q4 : Below w.heap.size w w4 := (Q2.alloc Q2.size _).grown hgrow4 (by have := Q2.size; simp; omega) (fun q hq => by have := (hown2.lt q hq).1; omega); have c4' : w4.cell? ⟨w.heap.size, 1, none⟩ = some (.slice A xs.length c) := hgrow4.cell ha2 (fun hq => by have hq2 : W1.heap.size ≤ w.heap.size := (hown2.lt _ hq.symm).1; omega)) | (at_builtin; refine wpList_app rfl (.tmp 49) (.tmp 51) 22 rfl W1.heap.size 5 i0 (.int .u8 0) 1 Try.underlying22 hi hz0 hz1 hz2 rfl _ _ _ rfl hown4 w4.heap.size .u8 A c xs rfl (HS3.out w4 Q4) (by unfold maxLen; rw [su_len]; omega) (by rw [su_len]; omega) (by have := hgrow4.size; simp at this; omega) ?_; intro v5 w5 hown5 hgrow5))
  go_ret2
  rw [HRB.out]
  have hown6 : w5.ownsRow W1.heap.size 5 1 v5 ((ys ++ su s') ++ xs).length (((ys ++ su s') ++ xs).map (Value.int .u8)) := by
    rw [List.length_append, List.length_append, List.map_append, List.map_append]
    exact hown5
  obtain ⟨A5, c5, rfl, hs5⟩ := own_slice hown6
  exact ⟨A5, c5, rfl, hs5, Q4.grown hgrow5 Q4.size (fun q hq => by have := (hown4.lt q hq).1; omega)⟩

theorem rput3_any (k : Int) (A : Option Addr) (c : Nat) (xs : List Int) (w : World) (hs : Sl w w.heap.size .u8 A xs) (hx : ∀ x ∈ xs, 0 ≤ x ∧ x ≤ 255) (r : List Int × Int) (hr : pu k xs = r) :
    Calls Try.prog 12 #[.agg #[.int .i64 k, .slice A xs.length c]] w (PutPost w .u8 r.1 r.2) := by
  by_cases h : k < 0 ∨ 1048576 < k
  · rw [pu_arg h] at hr; subst hr
    exact rput3_arg k A xs.length c w h
  · by_cases hl : 1024 < xs.length
    · rw [pu_full h hl] at hr; subst hr
      exact rput3_full k A xs.length c w (by omega) (by omega) hl
    · rw [pu_ok h hl] at hr; subst hr
      exact rput3_ok k A c xs w (by omega) (by omega) (by omega) hs hx

end Go.Proofs.Ytaghbokgcpkjjaa
