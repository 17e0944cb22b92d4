/-
  The walks of the reader's numbers (upTo), channel and number. Conditions: the reader is a block of its own; what is left has at most 10^9 bytes.
-/
import Derived.Test.YtpeieagfndggbaaDoorDig
import Derived.Test.YtpeieagfndggbaaDoorNm
import Derived.Lib.SmallJoins
namespace Go.Proofs.YtpeieagfndggbaaDoor
open Go.RowKit Tx

theorem nt_take (s : ByteArray) (k : Nat) : nt (s.extract 0 k) = (nt s).take k := by rw [nt_extract, List.drop_zero]
theorem get_zero {s : ByteArray} {c : Nat} (h : (nt s).head? = some c) : (s.get! 0).toNat = c := by
  rw [← nt_get]
  cases e : nt s with
  | nil => rw [e] at h; cases h
  | cons a t => rw [e] at h; simpa using h
theorem all_digits (l : List Nat) : ∀ c ∈ l.takeWhile isd, isd c = true := fun c hc => by
  have := List.all_takeWhile (p := isd) (l := l)
  rw [List.all_eq_true] at this
  exact this c hc
theorem nt_hd (s : ByteArray) (k : Nat) : nt (s.extract k s.size) = (nt s).drop k := nt_tail s k
theorem dgs_le (s : ByteArray) : dgs s ≤ s.size := by
  unfold dgs
  rw [← nt_len]
  exact (List.takeWhile_prefix isd).length_le
set_option maxRecDepth 1000000 in
theorem upto_yes (B : Nat) (l : ByteArray) (u s k h n : Int) (t : ByteArray) (most : Nat) (w : World) (hr : Rx 37 w B l u s k h n t) (hl : l.size ≤ 1000000000)
    (he : (num most (nt l)).2.2 = 0) : Calls Tryd.prog 41 #[.pointer (some ⟨B, 0, none⟩), .int .i64 most] w fun e w' => e = .returned (.int .i64 (num most (nt l)).1) ∧ ∃ l', nt l' = (num most (nt l)).2.1 ∧ Rx 37 w' B l' u s k h n t ∧ Below B w w' := by
  rw [num_way] at he ⊢
  unfold nway at he ⊢
  by_cases h32 : (nt l).head? = some 32
  · rw [if_pos h32] at he ⊢
    have HP := Lib.hid (pass_yes B l u s k h n t 32 w hr h32)
    by_cases h0 : ((nt l).tail.takeWhile isd).length = 0 ∨ (nt l).tail.head? = some 48
    · rw [if_pos h0] at he; cases he
    · rw [if_neg h0] at he ⊢
      by_cases h10 : 10 < ((nt l).tail.takeWhile isd).length
      · rw [if_pos h10] at he; cases he
      · rw [if_neg h10] at he ⊢
        by_cases hm : most < val ((nt l).tail.takeWhile isd)
        · rw [if_pos hm] at he; cases he
        · rw [if_neg hm]
          clear he
          generalize hT : (nt l).tail = T at *
          generalize hv : val (T.takeWhile isd) = v at *
          generalize hR : T.drop (T.takeWhile isd).length = R at *
          generalize hd : (T.takeWhile isd).length = d at *
          have hmm : ¬ ((most : Nat) : Int) < ((v : Nat) : Int) := by omega
          go_enter Tryd.func41, Tryd.ntmps41
          go_wp2_with fail
          refine HP.out.mono ?_
          rintro e w1 ⟨rfl, l1, e1, r1, b1⟩
          have hds : dgs l1 = d := by unfold dgs; rw [e1, hd]
          have hle : d ≤ l1.size := by rw [← hds]; exact dgs_le l1
          have hs1 : l1.size ≤ l.size := by
            rw [← nt_len, ← nt_len, e1, ← hT, List.length_tail]; omega
          have h0' : ¬ d = 0 := fun q => h0 (.inl q)
          have hz : 0 < l1.size := by omega
          have hg : ¬ (((l1[0]'hz).toNat : Nat) : Int) = 48 := fun q => by
            refine h0 (.inr ?_)
            have q : (l1[0]'hz).toNat = 48 := by omega
            rw [← get_at l1 0 hz, Nat.add_zero, ← nt_get, e1] at q
            cases e : T with
            | nil => rw [e] at q; cases q
            | cons a b => rw [e] at q; simpa using q
          have hat : Hid (Lib.atoi (l1.extract 0 d).data.toList = some ((v : Nat) : Int)) := by
            have e2 : (l1.extract 0 d).data.toList.map UInt8.toNat = T.takeWhile isd := by
              have : (l1.extract 0 d).data.toList.map UInt8.toNat = nt (l1.extract 0 d) := rfl
              rw [this, nt_take, e1, ← hd]
              exact (List.prefix_iff_eq_take.1 (List.takeWhile_prefix isd)).symm
            have := atoi_val (l := (l1.extract 0 d).data.toList) (fun q => by
              rw [q] at e2
              exact h0' (by rw [← hd, ← e2]; rfl)) (by rw [e2]; exact all_digits _)
            rw [e2, hv] at this
            exact this
          have hsz : (l1.extract 0 d).size ≤ 18 := by rw [ByteArray.size_extract]; omega
          have htl := Lib.hid ((nt_hd l1 d).trans (by rw [e1, hR]))
          have HD := Lib.hid (digits_any l1 w1)
          rw [hds] at HD
          clear hds hd hR hv hT h0 hm e1
          obtain ⟨c0, -⟩ := r1.cb
          have g0 := r1.free 0
          go_wp2_with fail
          refine HD.out.mono ?_
          rintro e w2 ⟨rfl, pos, hw2⟩
          have b2 : Below B w w2 := by rw [hw2]; exact b1.alloc (Nat.le_of_lt r1.lt) _
          have r2 : Rx 37 w2 B l1 u s k h n t := by rw [hw2]; exact r1.old _
          clear hw2 b1 r1 c0 g0
          obtain ⟨d0, -⟩ := r2.cb
          have f0 := r2.free 0
          have c1 : ¬ (d : Int) = 0 := by omega
          have c2 : ¬ (10 < (d : Int)) := by omega
          have q1 : ((d : Int) == 0) = false := beq_eq_false_iff_ne.2 c1
          have q2 : ((((l1[0]'hz).toNat : Nat) : Int) == 48) = false := beq_eq_false_iff_ne.2 hg
          go_wp2_with (go_at_call 51; refine (strconv_Atoi _ _ hsz hat.out _).mono ?_)
          rintro e w3 ⟨rfl, tt, hw3⟩
          have b3' : Below w2.heap.size w2 w3 := by rw [hw3]; exact Joins.below_bytesWorld _ _ _ _ (Nat.le_refl _)
          have b3 : Below B w w3 := b2.trans (b3'.mono (Nat.le_of_lt r2.lt))
          have r3 := r2.on b3' r2.lt
          clear hw3 b3' b2 r2 d0 f0
          obtain ⟨d0, -⟩ := r3.cb
          have f0 := r3.free 0
          go_wp2
          go_ret
          exact ⟨rfl, _, htl.out, r3.setl _, b3.trans (below_set B w3 0 _)⟩
  · rw [if_neg h32] at he
    cases he
set_option maxRecDepth 1000000 in
theorem upto_no (B : Nat) (l : ByteArray) (u s k h n : Int) (t : ByteArray) (most : Nat) (w : World) (hr : Rx 37 w B l u s k h n t) (hl : l.size ≤ 1000000000)
    (he : (num most (nt l)).2.2 ≠ 0) : Calls Tryd.prog 41 #[.pointer (some ⟨B, 0, none⟩), .int .i64 most] w fun e w' => e = wrong (num most (nt l)).2.2 ∧ Below B w w' := by
  rw [num_way] at he ⊢
  unfold nway at he ⊢
  by_cases h32 : (nt l).head? = some 32
  · rw [if_pos h32] at he ⊢
    have HP := Lib.hid (pass_yes B l u s k h n t 32 w hr h32)
    by_cases h0 : ((nt l).tail.takeWhile isd).length = 0
    · rw [if_pos (.inl h0)]
      clear he
      generalize hT : (nt l).tail = T at *
      generalize hd : (T.takeWhile isd).length = d at *
      go_enter Tryd.func41, Tryd.ntmps41
      go_wp2_with fail
      refine HP.out.mono ?_
      rintro e w1 ⟨rfl, l1, e1, r1, b1⟩
      have hds : dgs l1 = d := by unfold dgs; rw [e1, hd]
      have hle : d ≤ l1.size := by rw [← hds]; exact dgs_le l1
      have hs1 : l1.size ≤ l.size := by
        rw [← nt_len, ← nt_len, e1, ← hT, List.length_tail]; omega
      have HD := Lib.hid (digits_any l1 w1)
      rw [hds] at HD
      clear hds hd hT e1 
      obtain ⟨c0, -⟩ := r1.cb
      have g0 := r1.free 0
      go_wp2_with fail
      refine HD.out.mono ?_
      rintro e w2 ⟨rfl, pos, hw2⟩
      have b2 : Below B w w2 := by rw [hw2]; exact b1.alloc (Nat.le_of_lt r1.lt) _
      have r2 : Rx 37 w2 B l1 u s k h n t := by rw [hw2]; exact r1.old _
      clear hw2 b1 r1 c0 g0
      obtain ⟨d0, -⟩ := r2.cb
      have f0 := r2.free 0
      have c1 : (d : Int) = 0 := by omega
      have q1 : ((d : Int) == 0) = true := beq_iff_eq.2 c1
      go_wp2
      exact ⟨rfl, rfl, b2⟩
    · by_cases h48 : (nt l).tail.head? = some 48
      · rw [if_pos (.inr h48)]
        clear he
        generalize hT : (nt l).tail = T at *
        generalize hd : (T.takeWhile isd).length = d at *
        go_enter Tryd.func41, Tryd.ntmps41
        go_wp2_with fail
        refine HP.out.mono ?_
        rintro e w1 ⟨rfl, l1, e1, r1, b1⟩
        have hds : dgs l1 = d := by unfold dgs; rw [e1, hd]
        have hle : d ≤ l1.size := by rw [← hds]; exact dgs_le l1
        have hs1 : l1.size ≤ l.size := by
          rw [← nt_len, ← nt_len, e1, ← hT, List.length_tail]; omega
        have hz : 0 < l1.size := by omega
        have hg : (((l1[0]'hz).toNat : Nat) : Int) = 48 := by
          rw [← get_at l1 0 hz, Nat.add_zero, ← nt_get, e1]
          cases e : T with
          | nil => rw [e] at h48; cases h48
          | cons a b => rw [e] at h48; simp at h48; simp [h48]
        have HD := Lib.hid (digits_any l1 w1)
        rw [hds] at HD
        clear hds hd hT e1 
        obtain ⟨c0, -⟩ := r1.cb
        have g0 := r1.free 0
        go_wp2_with fail
        refine HD.out.mono ?_
        rintro e w2 ⟨rfl, pos, hw2⟩
        have b2 : Below B w w2 := by rw [hw2]; exact b1.alloc (Nat.le_of_lt r1.lt) _
        have r2 : Rx 37 w2 B l1 u s k h n t := by rw [hw2]; exact r1.old _
        clear hw2 b1 r1 c0 g0
        obtain ⟨d0, -⟩ := r2.cb
        have f0 := r2.free 0
        have c1 : ¬ (d : Int) = 0 := by omega
        have q1 : ((d : Int) == 0) = false := beq_eq_false_iff_ne.2 c1
        have q2 : ((((l1[0]'hz).toNat : Nat) : Int) == 48) = true := beq_iff_eq.2 hg
        go_wp2
        exact ⟨rfl, rfl, b2⟩
      · rw [if_neg (by rintro (q | q) <;> contradiction)]
        have h0 : ¬ (((nt l).tail.takeWhile isd).length = 0 ∨ (nt l).tail.head? = some 48) := by rintro (q | q) <;> contradiction
        by_cases h10 : 10 < ((nt l).tail.takeWhile isd).length
        · rw [if_pos h10]
          clear he
          generalize hT : (nt l).tail = T at *
          generalize hd : (T.takeWhile isd).length = d at *
          go_enter Tryd.func41, Tryd.ntmps41
          go_wp2_with fail
          refine HP.out.mono ?_
          rintro e w1 ⟨rfl, l1, e1, r1, b1⟩
          have hds : dgs l1 = d := by unfold dgs; rw [e1, hd]
          have hle : d ≤ l1.size := by rw [← hds]; exact dgs_le l1
          have hs1 : l1.size ≤ l.size := by
            rw [← nt_len, ← nt_len, e1, ← hT, List.length_tail]; omega
          have h0' : ¬ d = 0 := fun q => h0 (.inl q)
          have hz : 0 < l1.size := by omega
          have hg : ¬ (((l1[0]'hz).toNat : Nat) : Int) = 48 := fun q => by
            refine h0 (.inr ?_)
            have q : (l1[0]'hz).toNat = 48 := by omega
            rw [← get_at l1 0 hz, Nat.add_zero, ← nt_get, e1] at q
            cases e : T with
            | nil => rw [e] at q; cases q
            | cons a b => rw [e] at q; simpa using q
          have HD := Lib.hid (digits_any l1 w1)
          rw [hds] at HD
          clear hds hd hT e1 h0
          obtain ⟨c0, -⟩ := r1.cb
          have g0 := r1.free 0
          go_wp2_with fail
          refine HD.out.mono ?_
          rintro e w2 ⟨rfl, pos, hw2⟩
          have b2 : Below B w w2 := by rw [hw2]; exact b1.alloc (Nat.le_of_lt r1.lt) _
          have r2 : Rx 37 w2 B l1 u s k h n t := by rw [hw2]; exact r1.old _
          clear hw2 b1 r1 c0 g0
          obtain ⟨d0, -⟩ := r2.cb
          have f0 := r2.free 0
          have c1 : ¬ (d : Int) = 0 := by omega
          have q1 : ((d : Int) == 0) = false := beq_eq_false_iff_ne.2 c1
          have q2 : ((((l1[0]'hz).toNat : Nat) : Int) == 48) = false := beq_eq_false_iff_ne.2 hg
          have c2 : 10 < (d : Int) := by omega
          go_wp2
          exact ⟨rfl, rfl, b2⟩
        · rw [if_neg h10]
          by_cases hm : most < val ((nt l).tail.takeWhile isd)
          · rw [if_pos hm]
            clear he
            generalize hT : (nt l).tail = T at *
            generalize hv : val (T.takeWhile isd) = v at *
            generalize hd : (T.takeWhile isd).length = d at *
            have hmm : ((most : Nat) : Int) < ((v : Nat) : Int) := by omega
            go_enter Tryd.func41, Tryd.ntmps41
            go_wp2_with fail
            refine HP.out.mono ?_
            rintro e w1 ⟨rfl, l1, e1, r1, b1⟩
            have hds : dgs l1 = d := by unfold dgs; rw [e1, hd]
            have hle : d ≤ l1.size := by rw [← hds]; exact dgs_le l1
            have hs1 : l1.size ≤ l.size := by
              rw [← nt_len, ← nt_len, e1, ← hT, List.length_tail]; omega
            have h0' : ¬ d = 0 := fun q => h0 (.inl q)
            have hz : 0 < l1.size := by omega
            have hg : ¬ (((l1[0]'hz).toNat : Nat) : Int) = 48 := fun q => by
              refine h0 (.inr ?_)
              have q : (l1[0]'hz).toNat = 48 := by omega
              rw [← get_at l1 0 hz, Nat.add_zero, ← nt_get, e1] at q
              cases e : T with
              | nil => rw [e] at q; cases q
              | cons a b => rw [e] at q; simpa using q
            have hat : Hid (Lib.atoi (l1.extract 0 d).data.toList = some ((v : Nat) : Int)) := by
              have e2 : (l1.extract 0 d).data.toList.map UInt8.toNat = T.takeWhile isd := by
                have : (l1.extract 0 d).data.toList.map UInt8.toNat = nt (l1.extract 0 d) := rfl
                rw [this, nt_take, e1, ← hd]
                exact (List.prefix_iff_eq_take.1 (List.takeWhile_prefix isd)).symm
              have := atoi_val (l := (l1.extract 0 d).data.toList) (fun q => by
                rw [q] at e2
                exact h0' (by rw [← hd, ← e2]; rfl)) (by rw [e2]; exact all_digits _)
              rw [e2, hv] at this
              exact this
            have hsz : (l1.extract 0 d).size ≤ 18 := by rw [ByteArray.size_extract]; omega
            have HD := Lib.hid (digits_any l1 w1)
            rw [hds] at HD
            clear hds hd hT e1 h0 hv
            obtain ⟨c0, -⟩ := r1.cb
            have g0 := r1.free 0
            go_wp2_with fail
            refine HD.out.mono ?_
            rintro e w2 ⟨rfl, pos, hw2⟩
            have b2 : Below B w w2 := by rw [hw2]; exact b1.alloc (Nat.le_of_lt r1.lt) _
            have r2 : Rx 37 w2 B l1 u s k h n t := by rw [hw2]; exact r1.old _
            clear hw2 b1 r1 c0 g0
            obtain ⟨d0, -⟩ := r2.cb
            have f0 := r2.free 0
            have c1 : ¬ (d : Int) = 0 := by omega
            have q1 : ((d : Int) == 0) = false := beq_eq_false_iff_ne.2 c1
            have q2 : ((((l1[0]'hz).toNat : Nat) : Int) == 48) = false := beq_eq_false_iff_ne.2 hg
            have c2 : ¬ 10 < (d : Int) := by omega
            go_wp2_with (go_at_call 51; refine (strconv_Atoi _ _ hsz hat.out _).mono ?_)
            rintro e w3 ⟨rfl, tt, hw3⟩
            have b3' : Below w2.heap.size w2 w3 := by rw [hw3]; exact Joins.below_bytesWorld _ _ _ _ (Nat.le_refl _)
            have b3 : Below B w w3 := b2.trans (b3'.mono (Nat.le_of_lt r2.lt))
            clear hw3
            go_wp2
            exact ⟨rfl, rfl, b3⟩
          · exfalso
            rw [if_neg (by rintro (q | q) <;> contradiction), if_neg h10, if_neg hm] at he
            exact he rfl
  · rw [if_neg h32]
    have HP := Lib.hid (pass_no B l u s k h n t 32 w hr h32)
    go_enter Tryd.func41, Tryd.ntmps41
    go_wp2_with fail
    refine HP.out.mono ?_
    rintro e w1 ⟨rfl, rfl⟩
    exact ⟨rfl, rfl, Below.refl _ _⟩
end Go.Proofs.YtpeieagfndggbaaDoor
