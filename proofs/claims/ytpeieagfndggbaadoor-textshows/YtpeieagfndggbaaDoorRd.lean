/-
  The walks of the reader's methods: channel, number, text, end, kind. Conditions: the reader is a block of its own, and what is left has at most 10^9 bytes.
-/
import Derived.Test.YtpeieagfndggbaaDoorUp
import Derived.Test.YtpeieagfndggbaaDoorWd
namespace Go.Proofs.YtpeieagfndggbaaDoor
open Go.RowKit Tx

theorem chan_yes (B : Nat) (l : ByteArray) (u s k h n : Int) (t : ByteArray) (w : World) (hr : Rx 37 w B l u s k h n t) (hl : l.size ≤ 1000000000) (he : (num 1048576 (nt l)).2.2 = 0) :
    Calls Tryd.prog 22 #[.pointer (some ⟨B, 0, none⟩)] w fun e w' => e = .returned (.tuple #[]) ∧ ∃ l', nt l' = (num 1048576 (nt l)).2.1 ∧ Rx 37 w' B l' u s k (num 1048576 (nt l)).1 n t ∧ Below B w w' := by
  have HU := Lib.hid (upto_yes B l u s k h n t 1048576 w hr hl he)
  generalize (num 1048576 (nt l)).1 = v at *
  generalize (num 1048576 (nt l)).2.1 = R at *
  clear he
  go_enter Tryd.func22, Tryd.ntmps22
  go_wp2_with fail
  refine HU.out.mono ?_
  rintro e w1 ⟨rfl, l1, e1, r1, b1⟩
  have f0 := r1.free 4
  obtain ⟨d0, d1, d2, d3, d4, d5, d6⟩ := r1.cb
  go_wp2
  go_end0
  exact ⟨rfl, l1, e1, r1.seth _, b1.trans (below_set B w1 4 _)⟩
theorem chan_no (B : Nat) (l : ByteArray) (u s k h n : Int) (t : ByteArray) (w : World) (hr : Rx 37 w B l u s k h n t) (hl : l.size ≤ 1000000000) (he : (num 1048576 (nt l)).2.2 ≠ 0) :
    Calls Tryd.prog 22 #[.pointer (some ⟨B, 0, none⟩)] w fun e w' => e = wrong (num 1048576 (nt l)).2.2 ∧ Below B w w' := by
  have HU := Lib.hid (upto_no B l u s k h n t 1048576 w hr hl he)
  generalize (num 1048576 (nt l)).2.2 = c at *
  clear he
  go_enter Tryd.func22, Tryd.ntmps22
  go_wp2_with fail
  refine HU.out.mono ?_
  rintro e w1 ⟨rfl, b1⟩
  exact ⟨rfl, rfl, b1⟩

theorem numb_yes (B : Nat) (l : ByteArray) (u s k h n : Int) (t : ByteArray) (w : World) (hr : Rx 37 w B l u s k h n t) (hl : l.size ≤ 1000000000) (he : (num 1073741824 (nt l)).2.2 = 0) :
    Calls Tryd.prog 23 #[.pointer (some ⟨B, 0, none⟩)] w fun e w' => e = .returned (.tuple #[]) ∧ ∃ l', nt l' = (num 1073741824 (nt l)).2.1 ∧ Rx 37 w' B l' u s k h (num 1073741824 (nt l)).1 t ∧ Below B w w' := by
  have HU := Lib.hid (upto_yes B l u s k h n t 1073741824 w hr hl he)
  generalize (num 1073741824 (nt l)).1 = v at *
  generalize (num 1073741824 (nt l)).2.1 = R at *
  clear he
  go_enter Tryd.func23, Tryd.ntmps23
  go_wp2_with fail
  refine HU.out.mono ?_
  rintro e w1 ⟨rfl, l1, e1, r1, b1⟩
  have f0 := r1.free 5
  obtain ⟨d0, d1, d2, d3, d4, d5, d6⟩ := r1.cb
  go_wp2
  go_end0
  exact ⟨rfl, l1, e1, r1.setn _, b1.trans (below_set B w1 5 _)⟩
theorem numb_no (B : Nat) (l : ByteArray) (u s k h n : Int) (t : ByteArray) (w : World) (hr : Rx 37 w B l u s k h n t) (hl : l.size ≤ 1000000000) (he : (num 1073741824 (nt l)).2.2 ≠ 0) :
    Calls Tryd.prog 23 #[.pointer (some ⟨B, 0, none⟩)] w fun e w' => e = wrong (num 1073741824 (nt l)).2.2 ∧ Below B w w' := by
  have HU := Lib.hid (upto_no B l u s k h n t 1073741824 w hr hl he)
  generalize (num 1073741824 (nt l)).2.2 = c at *
  clear he
  go_enter Tryd.func23, Tryd.ntmps23
  go_wp2_with fail
  refine HU.out.mono ?_
  rintro e w1 ⟨rfl, b1⟩
  exact ⟨rfl, rfl, b1⟩

theorem end_yes (B : Nat) (l : ByteArray) (u s k h n : Int) (t : ByteArray) (w : World) (hr : Rx 37 w B l u s k h n t) (hl : nt l = []) :
    Calls Tryd.prog 25 #[.pointer (some ⟨B, 0, none⟩)] w fun e w' => e = .returned (.tuple #[]) ∧ w' = w := by
  obtain rfl := nt_nil hl
  obtain ⟨d0, -⟩ := hr.cb
  go_enter Tryd.func25, Tryd.ntmps25
  go_wp2
  go_end0
  exact ⟨rfl, rfl⟩
theorem end_no (B : Nat) (l : ByteArray) (u s k h n : Int) (t : ByteArray) (w : World) (hr : Rx 37 w B l u s k h n t) (hl : nt l ≠ []) :
    Calls Tryd.prog 25 #[.pointer (some ⟨B, 0, none⟩)] w fun e w' => e = wrong 2 ∧ w' = w := by
  have hne : l.toList.isEmpty = false := by
    rw [ByteArray.toList_eq, ← Bool.not_eq_true, List.isEmpty_iff]
    intro q
    exact hl (by unfold nt; rw [q]; rfl)
  obtain ⟨d0, -⟩ := hr.cb
  go_enter Tryd.func25, Tryd.ntmps25
  go_wp2
  exact ⟨rfl, rfl, rfl⟩
theorem tail_len (l : ByteArray) : (nt l).tail.length ≤ l.size := by rw [List.length_tail, nt_len]; omega
/-- strings.Clone: the same bytes. -/
theorem clone_any (s : ByteArray) (w : World) (hs : s.size ≤ 1000000000) : Calls Tryd.prog 42 #[.string s] w fun e w' => e = .returned (.string s) ∧ Below w.heap.size w w' := by
  have HC := Lib.hid (stringslite_Clone s w (by omega))
  go_enter Tryd.func42, Tryd.ntmps42
  go_wp2_with fail
  refine HC.out.mono ?_
  rintro e w1 ⟨rfl, b1⟩
  go_wp2
  go_ret
  exact ⟨rfl, b1⟩
theorem text_yes (B : Nat) (l : ByteArray) (u s k h n : Int) (t : ByteArray) (w : World) (hr : Rx 37 w B l u s k h n t) (h32 : (nt l).head? = some 32) (hm : may (nt l).tail = true) :
    Calls Tryd.prog 24 #[.pointer (some ⟨B, 0, none⟩)] w fun e w' => e = .returned (.tuple #[]) ∧ ∃ l' t', nt l' = [] ∧ nt t' = (nt l).tail ∧ Rx 37 w' B l' u s k h n t' ∧ Below B w w' := by
  have HP := Lib.hid (pass_yes B l u s k h n t 32 w hr h32)
  have h64 : (nt l).tail.length ≤ 64 := (may_iff.1 hm).2.1
  generalize (nt l).tail = T at *
  go_enter Tryd.func24, Tryd.ntmps24
  go_wp2_with fail
  refine HP.out.mono ?_
  rintro e w1 ⟨rfl, l1, e1, r1, b1⟩
  have c1 : ¬ (64 < (l1.size : Int)) := by rw [← nt_len, e1]; omega
  have hs : l1.size ≤ 1000000000 := by omega
  have HM := Lib.hid (may_any l1 w1)
  rw [e1, hm] at HM
  obtain ⟨d0, -⟩ := r1.cb
  go_wp2_with fail
  refine HM.out.mono ?_
  rintro e w2 ⟨rfl, b2'⟩
  have b2 := b1.trans (b2'.mono (Nat.le_of_lt r1.lt))
  have r2 := r1.on b2' r1.lt
  clear b2' b1 r1 d0
  obtain ⟨d0, -⟩ := r2.cb
  have HC := Lib.hid (clone_any l1 w2 hs)
  go_wp2_with fail
  refine HC.out.mono ?_
  rintro e w3 ⟨rfl, b3'⟩
  have b3 := b2.trans (b3'.mono (Nat.le_of_lt r2.lt))
  have r3 := r2.on b3' r2.lt
  clear b3' b2 r2 d0
  have f0 := r3.free 0
  have f6 := r3.free 6
  obtain ⟨d0, d1, d2, d3, d4, d5, d6⟩ := r3.cb
  go_wp2
  go_end0
  exact ⟨rfl, _, l1, rfl, e1, (r3.sett l1).setl _, b3.trans ((below_set B w3 6 _).trans (below_set B _ 0 _))⟩
/-- What is wrong in a text. -/
def txw (l : List Nat) : Nat := if l.head? = some 32 then (if 64 < l.tail.length then 7 else 2) else 2
theorem text_no (B : Nat) (l : ByteArray) (u s k h n : Int) (t : ByteArray) (w : World) (hr : Rx 37 w B l u s k h n t) (hn : ¬ ((nt l).head? = some 32 ∧ may (nt l).tail = true)) :
    Calls Tryd.prog 24 #[.pointer (some ⟨B, 0, none⟩)] w fun e w' => e = wrong (txw (nt l)) ∧ Below B w w' := by
  by_cases h32 : (nt l).head? = some 32
  · have HP := Lib.hid (pass_yes B l u s k h n t 32 w hr h32)
    have hm : may (nt l).tail = false := by rw [← Bool.not_eq_true]; exact fun q => hn ⟨h32, q⟩
    by_cases h64 : 64 < (nt l).tail.length
    · have ht : txw (nt l) = 7 := by unfold txw; rw [if_pos h32, if_pos h64]
      rw [ht]
      generalize (nt l).tail = T at *
      go_enter Tryd.func24, Tryd.ntmps24
      go_wp2_with fail
      refine HP.out.mono ?_
      rintro e w1 ⟨rfl, l1, e1, r1, b1⟩
      have c1 : 64 < (l1.size : Int) := by rw [← nt_len, e1]; omega
      obtain ⟨d0, -⟩ := r1.cb
      go_wp2
      exact ⟨rfl, rfl, b1⟩
    · have ht : txw (nt l) = 2 := by unfold txw; rw [if_pos h32, if_neg h64]
      rw [ht]
      generalize (nt l).tail = T at *
      go_enter Tryd.func24, Tryd.ntmps24
      go_wp2_with fail
      refine HP.out.mono ?_
      rintro e w1 ⟨rfl, l1, e1, r1, b1⟩
      have c1 : ¬ (64 < (l1.size : Int)) := by rw [← nt_len, e1]; omega
      have HM := Lib.hid (may_any l1 w1)
      rw [e1, hm] at HM
      obtain ⟨d0, -⟩ := r1.cb
      go_wp2_with fail
      refine HM.out.mono ?_
      rintro e w2 ⟨rfl, b2'⟩
      have b2 := b1.trans (b2'.mono (Nat.le_of_lt r1.lt))
      go_wp2
      exact ⟨rfl, rfl, b2⟩
  · have ht : txw (nt l) = 2 := by unfold txw; rw [if_neg h32]
    rw [ht]
    have HP := Lib.hid (pass_no B l u s k h n t 32 w hr h32)
    go_enter Tryd.func24, Tryd.ntmps24
    go_wp2_with fail
    refine HP.out.mono ?_
    rintro e w1 ⟨rfl, rfl⟩
    exact ⟨rfl, rfl, Below.refl _ _⟩
theorem kind_yes (B : Nat) (l : ByteArray) (u s k h n : Int) (t : ByteArray) (w : World) (hr : Rx 37 w B l u s k h n t) (hl : l.size ≤ 1000000000) (h47 : (nt l).head? = some 47) (hk : kindOf ((nt l).tail.takeWhile nots) ≠ 0) :
    Calls Tryd.prog 20 #[.pointer (some ⟨B, 0, none⟩)] w fun e w' => e = .returned (.tuple #[]) ∧ ∃ l', nt l' = (nt l).tail.dropWhile nots ∧ Rx 37 w' B l' u s (kindOf ((nt l).tail.takeWhile nots)) h n t ∧ Below B w w' := by
  have HP := Lib.hid (pass_yes B l u s k h n t 47 w hr h47)
  have hlt := kindOf_lt ((nt l).tail.takeWhile nots)
  have htl := tail_len l
  generalize hT : (nt l).tail = T at *
  generalize hK : kindOf (T.takeWhile nots) = K at *
  go_enter Tryd.func20, Tryd.ntmps20
  go_wp2_with fail
  refine HP.out.mono ?_
  rintro e w1 ⟨rfl, l1, e1, r1, b1⟩
  have hl1 : l1.size ≤ 1000000000 := by rw [← nt_len, e1]; omega
  have HC := Lib.hid (cut_any l1 w1 (by omega))
  obtain ⟨d0, -⟩ := r1.cb
  go_wp2_with fail
  refine HC.out.mono ?_
  rintro e w2 ⟨⟨a, b, f, rfl, ha⟩, b2'⟩
  have b2 := b1.trans (b2'.mono (Nat.le_of_lt r1.lt))
  have r2 := r1.on b2' r1.lt
  clear b2' b1 r1 d0
  have hix : Lib.idxOfS wds a = K := by
    rw [e1] at ha
    have := (idx_kind a).1 (by rw [ha, hK]; exact hk)
    rw [this, ha, hK]
  have HW := Lib.hid (words_any w2)
  go_wp2_with fail
  refine HW.out.mono ?_
  rintro e w3 ⟨rfl, hw3⟩
  have hc3 : ∀ j, j < wds.length → w3.cell? ⟨w2.heap.size, 0 + j, none⟩ = some (.string (wds.getD j ByteArray.empty)) := by
    intro j hj
    have hrow : w3.heap[w2.heap.size]? = some (.cells #[.string W0, .string W1, .string W2, .string W3, .string W4, .string W5, .string W6, .string W7] 9 (0, 0)) := by rw [hw3]; exact nalloc_new w2 _
    rw [cell_of_row w3 _ _ _ 9 _ hrow]
    match j, hj with
    | 0, _ => rfl
    | 1, _ => rfl
    | 2, _ => rfl
    | 3, _ => rfl
    | 4, _ => rfl
    | 5, _ => rfl
    | 6, _ => rfl
    | 7, _ => rfl
  have HI := Lib.hid (slices_Index_string w2.heap.size 0 8 8 wds a w3 (by decide) (by decide) hc3)
  have b3' : Below w2.heap.size w2 w3 := by rw [hw3]; exact (Below.refl _ _).alloc (Nat.le_refl _) _
  have b3 := b2.trans (b3'.mono (Nat.le_of_lt r2.lt))
  have r3 := r2.on b3' r2.lt
  have e8 : wds.take 8 = wds := rfl
  rw [e8, hix] at HI
  clear e8 hix hc3 b3' b2 r2 hw3
  have f3 := r3.free 3
  go_wp2_with fail
  refine HI.out.mono ?_
  rintro e w4 ⟨rfl, rfl⟩
  obtain ⟨d0, d1, d2, d3, d4, d5, d6⟩ := r3.cb
  have r4 := r3.setk (K : Int)
  have b4 := b3.trans (below_set B w4 3 (.int .i64 K))
  have hy : (decide (1 ≤ (K : Int)) && decide ((K : Int) ≤ 7)) = true := by rw [decide_eq_true (by omega), decide_eq_true (by omega)]; rfl
  have HY := fun W => Lib.hid (typed_any K W)
  rw [hy] at HY
  go_wp2_with fail
  refine (HY _).out.mono ?_
  rintro e w5 ⟨rfl, rfl⟩
  generalize w4.setCell ⟨B, 3, none⟩ (.int .i64 K) = w5 at *
  clear d0 d1 d2 d3 d4 d5 d6 b3 r3 f3
  have f0 := r4.free 0
  obtain ⟨d0, d1, d2, d3, d4, d5, d6⟩ := r4.cb
  have ha' : nt a = T.takeWhile nots := by rw [ha, e1]
  have hle : a.size ≤ l1.size := by
    rw [← nt_len, ← nt_len, ha', e1]; exact (List.takeWhile_prefix nots).length_le
  have hdr : nt (l1.extract a.size l1.size) = T.dropWhile nots := by
    rw [nt_hd, ← nt_len a, ha', e1]
    have e := List.takeWhile_append_dropWhile (p := nots) (l := T)
    have h2 := List.drop_left (l₁ := T.takeWhile nots) (l₂ := T.dropWhile nots)
    rw [e] at h2
    exact h2
  go_wp2
  go_end0
  exact ⟨rfl, _, hdr, r4.setl _, b4.trans (below_set B w5 0 _)⟩
theorem kind_no (B : Nat) (l : ByteArray) (u s k h n : Int) (t : ByteArray) (w : World) (hr : Rx 37 w B l u s k h n t) (hl : l.size ≤ 1000000000) (hn : ¬ ((nt l).head? = some 47 ∧ kindOf ((nt l).tail.takeWhile nots) ≠ 0)) :
    Calls Tryd.prog 20 #[.pointer (some ⟨B, 0, none⟩)] w fun e w' => e = wrong 2 ∧ Below B w w' := by
  by_cases h47 : (nt l).head? = some 47
  · have HP := Lib.hid (pass_yes B l u s k h n t 47 w hr h47)
    have hk : kindOf ((nt l).tail.takeWhile nots) = 0 := by
      rcases Nat.eq_zero_or_pos (kindOf ((nt l).tail.takeWhile nots)) with h | h
      · exact h
      · exact absurd ⟨h47, by omega⟩ hn
    have htl := tail_len l
    generalize hT : (nt l).tail = T at *
    go_enter Tryd.func20, Tryd.ntmps20
    go_wp2_with fail
    refine HP.out.mono ?_
    rintro e w1 ⟨rfl, l1, e1, r1, b1⟩
    have hl1 : l1.size ≤ 1000000000 := by rw [← nt_len, e1]; omega
    have HC := Lib.hid (cut_any l1 w1 (by omega))
    obtain ⟨d0, -⟩ := r1.cb
    go_wp2_with fail
    refine HC.out.mono ?_
    rintro e w2 ⟨⟨a, b, f, rfl, ha⟩, b2'⟩
    have b2 := b1.trans (b2'.mono (Nat.le_of_lt r1.lt))
    have r2 := r1.on b2' r1.lt
    clear b2' b1 r1 d0
    obtain ⟨K, hix, hK⟩ : ∃ K, Lib.idxOfS wds a = K ∧ K ≤ 0 := by
      rw [e1] at ha
      exact ⟨_, rfl, (idx_kind a).2 (by rw [ha, hk])⟩
    have HW := Lib.hid (words_any w2)
    go_wp2_with fail
    refine HW.out.mono ?_
    rintro e w3 ⟨rfl, hw3⟩
    have hc3 : ∀ j, j < wds.length → w3.cell? ⟨w2.heap.size, 0 + j, none⟩ = some (.string (wds.getD j ByteArray.empty)) := by
      intro j hj
      have hrow : w3.heap[w2.heap.size]? = some (.cells #[.string W0, .string W1, .string W2, .string W3, .string W4, .string W5, .string W6, .string W7] 9 (0, 0)) := by rw [hw3]; exact nalloc_new w2 _
      rw [cell_of_row w3 _ _ _ 9 _ hrow]
      match j, hj with
      | 0, _ => rfl
      | 1, _ => rfl
      | 2, _ => rfl
      | 3, _ => rfl
      | 4, _ => rfl
      | 5, _ => rfl
      | 6, _ => rfl
      | 7, _ => rfl
    have HI := Lib.hid (slices_Index_string w2.heap.size 0 8 8 wds a w3 (by decide) (by decide) hc3)
    have b3' : Below w2.heap.size w2 w3 := by rw [hw3]; exact (Below.refl _ _).alloc (Nat.le_refl _) _
    have b3 := b2.trans (b3'.mono (Nat.le_of_lt r2.lt))
    have r3 := r2.on b3' r2.lt
    have e8 : wds.take 8 = wds := rfl
    rw [e8, hix] at HI
    clear e8 hix hc3 b3' b2 r2 hw3
    have f3 := r3.free 3
    go_wp2_with fail
    refine HI.out.mono ?_
    rintro e w4 ⟨rfl, rfl⟩
    obtain ⟨d0, d1, d2, d3, d4, d5, d6⟩ := r3.cb
    have b4 := b3.trans (below_set B w4 3 (.int .i64 K))
    have hy : (decide (1 ≤ K) && decide (K ≤ 7)) = false := by rw [decide_eq_false (p := 1 ≤ K) (by omega), Bool.false_and]
    have HY := fun W => Lib.hid (typed_any K W)
    rw [hy] at HY
    go_wp2_with fail
    refine (HY _).out.mono ?_
    rintro e w5 ⟨rfl, rfl⟩
    generalize w4.setCell ⟨B, 3, none⟩ (.int .i64 K) = w5 at *
    go_wp2
    exact ⟨rfl, rfl, b4⟩
  · have HP := Lib.hid (pass_no B l u s k h n t 47 w hr h47)
    go_enter Tryd.func20, Tryd.ntmps20
    go_wp2_with fail
    refine HP.out.mono ?_
    rintro e w1 ⟨rfl, rfl⟩
    exact ⟨rfl, rfl, Below.refl _ _⟩
end Go.Proofs.YtpeieagfndggbaaDoor
