/-
  The walk of the document's word: the kind of the word that a line has behind the slash, and what is left. Conditions: at most 10^6 bytes.
-/
import Derived.Test.YtpeieagfndggbaaDoorRu
import Derived.Test.YtpeieagfndggbaaDoorSh2
namespace Go.Proofs.YtpeieagfndggbaaDoor
open Go.RowKit Tx

/-- The kind of a line's word, what is left, and the error. -/
def wway (l : List Nat) : Nat × List Nat × Nat :=
  if l.head? = some 47 then (if kindOf (l.tail.takeWhile nots) = 0 then (0, [], 2) else (kindOf (l.tail.takeWhile nots), l.tail.dropWhile nots, 0)) else (0, [], 2)
theorem nots_get {l : List Nat} : ∀ {j : Nat}, j < (l.takeWhile nots).length → l[j]? = (l.takeWhile nots)[j]? := by
  intro j hj
  have e := List.takeWhile_append_dropWhile (p := nots) (l := l)
  conv => lhs; rw [← e]
  rw [List.getElem?_append_left hj]
theorem nots_end {l : List Nat} {c : Nat} (h : l[(l.takeWhile nots).length]? = some c) : nots c = false := by
  induction l with
  | nil => simp at h
  | cons a l ih =>
    rw [List.takeWhile_cons] at h
    cases q : nots a
    · rw [q] at h
      simp at h
      rw [← h]; exact q
    · rw [q] at h
      simp only [if_true, List.length_cons, List.getElem?_cons_succ] at h
      exact ih h
theorem nots_drop (t : List Nat) : t.dropWhile nots = t.drop (t.takeWhile nots).length := by
  have e := List.takeWhile_append_dropWhile (p := nots) (l := t)
  have h2 := List.drop_left (l₁ := t.takeWhile nots) (l₂ := t.dropWhile nots)
  rw [e] at h2
  exact h2.symm
theorem kind_is {X : ByteArray} {k : Nat} (hk : 1 ≤ k ∧ k ≤ 7) (h : wS k = X) : kindOf (nt X) = k := by
  rw [← h, nt_wS hk, kindOf_wd hk]
theorem kind_not {X : ByteArray} (h : ∀ k, 1 ≤ k → k < 8 → wS k ≠ X) : kindOf (nt X) = 0 := by
  rw [kind_eq]
  have h1 : ¬ W1 = X := h 1 (by omega) (by omega)
  have h2 : ¬ W2 = X := h 2 (by omega) (by omega)
  have h3 : ¬ W3 = X := h 3 (by omega) (by omega)
  have h4 : ¬ W4 = X := h 4 (by omega) (by omega)
  have h5 : ¬ W5 = X := h 5 (by omega) (by omega)
  have h6 : ¬ W6 = X := h 6 (by omega) (by omega)
  have h7 : ¬ W7 = X := h 7 (by omega) (by omega)
  rw [if_neg h1, if_neg h2, if_neg h3, if_neg h4, if_neg h5, if_neg h6, if_neg h7]
theorem rwords_at (W : World) : Calls Tryd.prog 17 #[] W fun e w' => e = .returned (.slice (some ⟨W.heap.size, 0, none⟩) 8 8) ∧ (∀ k, 1 ≤ k → k < 8 → w'.cell? ⟨W.heap.size, k, none⟩ = some (.string (wS k))) ∧ Below W.heap.size W w' := by
  refine (rwords_any W).mono ?_
  rintro e w' ⟨rfl, hw⟩
  refine ⟨rfl, fun k h1 h2 => ?_, by rw [hw]; exact (Below.refl _ _).alloc (Nat.le_refl _) _⟩
  have hrow : w'.heap[W.heap.size]? = some (.cells #[.string W0, .string W1, .string W2, .string W3, .string W4, .string W5, .string W6, .string W7] 9 (0, 0)) := by rw [hw]; exact nalloc_new W _
  rw [cell_of_row w' _ k _ 9 _ hrow]
  refine kinds (P := fun k => #[Value.string W0, .string W1, .string W2, .string W3, .string W4, .string W5, .string W6, .string W7][k]? = some (.string (wS k))) ⟨h1, by omega⟩ ?_ ?_ ?_ ?_ ?_ ?_ ?_ <;> rfl
set_option maxHeartbeats 1000000 in
set_option maxRecDepth 100000 in
theorem rword_line (s : ByteArray) (w : World) (hs : s.size ≤ 1000000) : Calls Tryd.prog 26 #[.string s] w (RuPost w (wway (nt s))) := by
  have hget : ∀ P (h : P < s.size), 1 ≤ P → (nt s).tail[P - 1]? = some (s[P]'h).toNat := by
    intro P h hp
    have e := byte_get h
    obtain ⟨q, rfl⟩ : ∃ q, P = q + 1 := ⟨P - 1, by omega⟩
    rw [Nat.add_sub_cancel, List.getElem?_tail]
    exact e
  have hwl : ((nt s).tail.takeWhile nots).length ≤ s.size - 1 := by
    have h1 := (List.takeWhile_prefix (l := (nt s).tail) nots).length_le
    rw [List.length_tail, nt_len] at h1
    exact h1
  have hall : ∀ c ∈ (nt s).tail.takeWhile nots, nots c = true := by
    have := List.all_takeWhile (p := nots) (l := (nt s).tail)
    rw [List.all_eq_true] at this
    exact this
  have hwg := fun j => nots_get (l := (nt s).tail) (j := j)
  have hwe := fun c => nots_end (l := (nt s).tail) (c := c)
  have hX : nt (s.extract 1 (1 + ((nt s).tail.takeWhile nots).length)) = (nt s).tail.takeWhile nots := by
    rw [nt_extract, List.drop_take, Nat.add_sub_cancel_left, List.drop_one]
    exact (List.prefix_iff_eq_take.1 (List.takeWhile_prefix nots)).symm
  have hY : nt (s.extract (1 + ((nt s).tail.takeWhile nots).length) s.size) = (nt s).tail.dropWhile nots := by
    rw [nt_hd, nots_drop, ← List.drop_one, List.drop_drop]
  have hD : 47 = 47 → ((nt s).tail.takeWhile nots).length ≤ s.size := fun _ => by omega
  obtain ⟨r, hr⟩ : ∃ r, wway (nt s) = r := ⟨_, rfl⟩
  rw [hr]
  unfold wway at hr
  have HW := fun W => Lib.hid (rwords_at W)
  rw [← hX, ← hY] at hr
  obtain ⟨X, hXe⟩ : ∃ X, s.extract 1 (1 + ((nt s).tail.takeWhile nots).length) = X := ⟨_, rfl⟩
  rw [hXe] at hr
  clear hX hY hD
  generalize (nt s).tail.takeWhile nots = Wd at *
  generalize hDl : Wd.length = D at *
  have HG := Lib.hid hget
  have HWG := Lib.hid hwg
  have HWE := Lib.hid hwe
  have HA := Lib.hid hall
  have HD := Lib.hid hDl
  have HXe := Lib.hid hXe
  clear hXe
  clear hget hwg hwe hall hDl
  have hhd : ∀ h : 0 < s.size, (nt s).head? = some (s[0]'h).toNat := fun h => by rw [List.head?_eq_getElem?]; exact byte_get h
  have hno47 : (nt s).head? ≠ some 47 → r = (0, [], 2) := fun q => by rw [← hr, if_neg q]
  have hyes47 : (nt s).head? = some 47 → (if kindOf (nt X) = 0 then (0, [], 2) else (kindOf (nt X), nt (s.extract (1 + D) s.size), 0)) = r := fun q => by rw [← hr, if_pos q]
  have Hn := Lib.hid hno47
  have Hy := Lib.hid hyes47
  have Hh := Lib.hid hhd
  have Hz : Hid (s.size = 0 → (nt s).head? ≠ some 47) := fun q h => by
    have : (nt s).length = 0 := by rw [nt_len]; exact q
    rw [List.length_eq_zero_iff.1 this] at h; cases h
  clear hr hno47 hyes47 hhd
  go_enter Tryd.func26, Tryd.ntmps26
  go_wp2
  go_loop [5] (fun y => ∃ P : Nat, y = .int .i64 (P : Int) ∧ 1 ≤ P ∧ P ≤ 1 + D) (fun y => s.size - (intOf y).toNat)
  case atStart => exact ⟨1, rfl, Nat.le_refl _, by omega⟩
  case round =>
    obtain ⟨P, rfl, p1, p2⟩ := hrel
    by_cases hlt : P < 1 + D
    · have hin : P < s.size := by omega
      have k0 : (0 : Int) ≤ (P : Int) := by omega
      have k1 : (P : Int) < (s.size : Int) := by omega
      obtain ⟨B, hB⟩ : ∃ B : Nat, B = (s[P]'hin).toNat := ⟨_, rfl⟩
      have hBI : (((s[P]'hin).toNat : Nat) : Int) = B := by rw [hB]
      have hWB : Wd[P - 1]? = some B := by
        rw [← HWG.out (P - 1) (by omega), HG.out P hin p1, hB]
      have hdx := HA.out B (List.mem_of_getElem? hWB)
      unfold nots at hdx
      rw [decide_eq_true_eq] at hdx
      have k2 : ((B : Int) != 32) = true := by simp; omega
      clear hB hWB hdx
      go_wp2
      go_round
      case rel => exact ⟨P + 1, by go_num, by omega, by omega⟩
      case measure => simp [intOf]; omega
    · obtain rfl : P = 1 + D := by omega
      have k5 : ((1 + D : Nat) : Int) = 1 + (D : Int) := by omega
      by_cases hz : 0 < s.size
      · obtain ⟨A, hA⟩ : ∃ A : Nat, A = (s[0]'hz).toNat := ⟨_, rfl⟩
        have hAI : (((s[0]'hz).toNat : Nat) : Int) = A := by rw [hA]
        have hh := Hh.out hz
        rw [← hA] at hh
        clear hA
        have z0 : ((s.size : Int) == 0) = false := beq_eq_false_iff_ne.2 (by omega)
        have k7 : (0 : Int) ≤ 1 + (D : Int) := by omega
        have k8 : 1 + (D : Int) ≤ (s.size : Int) := by omega
        have k9 : (1 : Int) ≤ 1 + (D : Int) := by omega
        by_cases hin : 1 + D < s.size
        · have k0 : (0 : Int) ≤ 1 + (D : Int) := by omega
          have k1 : 1 + (D : Int) < (s.size : Int) := by omega
          obtain ⟨B, hB⟩ : ∃ B : Nat, B = (s[1 + D]'hin).toNat := ⟨_, rfl⟩
          have hBI : (((s[1 + D]'hin).toNat : Nat) : Int) = B := by rw [hB]
          have hBn : nots B = false := HWE.out B (by
            have := HG.out (1 + D) hin (by omega)
            rw [Nat.add_sub_cancel_left] at this
            rw [this, hB])
          unfold nots at hBn
          rw [decide_eq_false_iff_not, Classical.not_not] at hBn
          have k2 : ((B : Int) != 32) = false := by simp; omega
          clear hB hBn
          by_cases hA : A = 47
          · have a1 : ((A : Int) != 47) = false := by simp; omega
            have HR := Lib.hid (Hy.out (by rw [hh, hA]))
            clear hh Hh Hn Hy Hz HG HWG HWE HA HD
            go_wp2_with fail
            refine (HW w).out.mono ?_
            rintro e w2 ⟨rfl, hrow, hb2⟩
            go_wp2
            go_loopw [7] (fun x w' => ∃ k : Nat, x = .int .i64 (k : Int) ∧ 1 ≤ k ∧ k ≤ 8 ∧ Hid (∀ j, 1 ≤ j → j < k → wS j ≠ X) ∧ Hid (∀ k, 1 ≤ k → k < 8 → w'.cell? ⟨w.heap.size, k, none⟩ = some (.string (wS k))) ∧ Hid (Below w.heap.size w w')) (fun x _ => 8 - (intOf x).toNat)
            case atStart => exact ⟨1, rfl, by omega, by omega, fun j h1 h2 => by omega, hrow, hb2⟩
            case round =>
              clear hrow hb2
              obtain ⟨k, rfl, n1, n2, hno, hrow, hb2⟩ := hrel
              by_cases hk : k < 8
              · have m1 : (0 : Int) ≤ (k : Int) := by omega
                have m2 : (k : Int) < 8 := by omega
                have hr1 := hrow.out k n1 hk
                obtain ⟨V, hV⟩ : ∃ V, V = wS k := ⟨_, rfl⟩
                rw [← hV] at hr1
                by_cases he : V = X
                · have hkk : kindOf (nt X) = k := kind_is ⟨n1, by omega⟩ (hV.symm.trans he)
                  have r1 : r = (k, nt (s.extract (1 + D) s.size), 0) := by rw [← HR.out, hkk, if_neg (by omega)]
                  subst r1
                  clear HR hV hkk hrow hno
                  have heq : (V.toList == (s.extract 1 (1 + D)).toList) = true := by
                    rw [HXe.out]
                    exact (Lib.bytes_beq_iff V X).2 he
                  clear he
                  go_wp2
                  go_quiet (fail)
                  go_wp2
                  go_quiet (fail)
                  go_wp2
                  go_ret3
                  exact ⟨⟨_, rfl, rfl⟩, ⟨hb2.out.os, hb2.out.tape, hb2.out.output, hb2.out.size, hb2.out.block⟩⟩
                · have hne : (V.toList == (s.extract 1 (1 + D)).toList) = false := by
                    rw [HXe.out]
                    exact (Lib.bytes_beq_false_iff V X).2 he
                  have hno2 : Hid (∀ j, 1 ≤ j → j < k + 1 → wS j ≠ X) := fun j h1 h2 => by
                    by_cases hj : j < k
                    · exact hno.out j h1 hj
                    · obtain rfl : j = k := by omega
                      rw [← hV]; exact he
                  have hrow2 := hrow
                  clear HR hV he hrow hno
                  go_wp2
                  go_quiet (fail)
                  go_wp2
                  go_roundw
                  case rel => exact ⟨k + 1, by go_num, by omega, by omega, hno2, hrow2.out, ⟨hb2.out.os, hb2.out.tape, hb2.out.output, hb2.out.size, hb2.out.block⟩⟩
                  case measure => simp [intOf]; omega
              · obtain rfl : k = 8 := by omega
                have r1 : r = (0, [], 2) := by rw [← HR.out, kind_not (fun j h1 h2 => hno.out j h1 h2), if_pos rfl]
                subst r1
                clear HR hno hrow
                go_wp2
                go_ret3
                exact ⟨⟨⟨#[]⟩, rfl, rfl⟩, hb2.out⟩
          · have a1 : ((A : Int) != 47) = true := by simp; omega
            have r1 := Hn.out (by rw [hh]; simpa using hA)
            subst r1
            clear hh Hh Hn Hy Hz HG HWG HWE HA HD
            go_wp2
            go_ret3
            exact ⟨⟨⟨#[]⟩, rfl, rfl⟩, Below.refl _ _⟩
        · have k1 : ¬ 1 + (D : Int) < (s.size : Int) := by omega
          by_cases hA : A = 47
          · have a1 : ((A : Int) != 47) = false := by simp; omega
            have HR := Lib.hid (Hy.out (by rw [hh, hA]))
            clear hh Hh Hn Hy Hz HG HWG HWE HA HD
            go_wp2_with fail
            refine (HW w).out.mono ?_
            rintro e w2 ⟨rfl, hrow, hb2⟩
            go_wp2
            go_loopw [7] (fun x w' => ∃ k : Nat, x = .int .i64 (k : Int) ∧ 1 ≤ k ∧ k ≤ 8 ∧ Hid (∀ j, 1 ≤ j → j < k → wS j ≠ X) ∧ Hid (∀ k, 1 ≤ k → k < 8 → w'.cell? ⟨w.heap.size, k, none⟩ = some (.string (wS k))) ∧ Hid (Below w.heap.size w w')) (fun x _ => 8 - (intOf x).toNat)
            case atStart => exact ⟨1, rfl, by omega, by omega, fun j h1 h2 => by omega, hrow, hb2⟩
            case round =>
              clear hrow hb2
              obtain ⟨k, rfl, n1, n2, hno, hrow, hb2⟩ := hrel
              by_cases hk : k < 8
              · have m1 : (0 : Int) ≤ (k : Int) := by omega
                have m2 : (k : Int) < 8 := by omega
                have hr1 := hrow.out k n1 hk
                obtain ⟨V, hV⟩ : ∃ V, V = wS k := ⟨_, rfl⟩
                rw [← hV] at hr1
                by_cases he : V = X
                · have hkk : kindOf (nt X) = k := kind_is ⟨n1, by omega⟩ (hV.symm.trans he)
                  have r1 : r = (k, nt (s.extract (1 + D) s.size), 0) := by rw [← HR.out, hkk, if_neg (by omega)]
                  subst r1
                  clear HR hV hkk hrow hno
                  have heq : (V.toList == (s.extract 1 (1 + D)).toList) = true := by
                    rw [HXe.out]
                    exact (Lib.bytes_beq_iff V X).2 he
                  clear he
                  go_wp2
                  go_quiet (fail)
                  go_wp2
                  go_quiet (fail)
                  go_wp2
                  go_ret3
                  exact ⟨⟨_, rfl, rfl⟩, ⟨hb2.out.os, hb2.out.tape, hb2.out.output, hb2.out.size, hb2.out.block⟩⟩
                · have hne : (V.toList == (s.extract 1 (1 + D)).toList) = false := by
                    rw [HXe.out]
                    exact (Lib.bytes_beq_false_iff V X).2 he
                  have hno2 : Hid (∀ j, 1 ≤ j → j < k + 1 → wS j ≠ X) := fun j h1 h2 => by
                    by_cases hj : j < k
                    · exact hno.out j h1 hj
                    · obtain rfl : j = k := by omega
                      rw [← hV]; exact he
                  have hrow2 := hrow
                  clear HR hV he hrow hno
                  go_wp2
                  go_quiet (fail)
                  go_wp2
                  go_roundw
                  case rel => exact ⟨k + 1, by go_num, by omega, by omega, hno2, hrow2.out, ⟨hb2.out.os, hb2.out.tape, hb2.out.output, hb2.out.size, hb2.out.block⟩⟩
                  case measure => simp [intOf]; omega
              · obtain rfl : k = 8 := by omega
                have r1 : r = (0, [], 2) := by rw [← HR.out, kind_not (fun j h1 h2 => hno.out j h1 h2), if_pos rfl]
                subst r1
                clear HR hno hrow
                go_wp2
                go_ret3
                exact ⟨⟨⟨#[]⟩, rfl, rfl⟩, hb2.out⟩
          · have a1 : ((A : Int) != 47) = true := by simp; omega
            have r1 := Hn.out (by rw [hh]; simpa using hA)
            subst r1
            clear hh Hh Hn Hy Hz HG HWG HWE HA HD
            go_wp2
            go_ret3
            exact ⟨⟨⟨#[]⟩, rfl, rfl⟩, Below.refl _ _⟩
      · have z0 : ((s.size : Int) == 0) = true := beq_iff_eq.2 (by omega)
        have k1 : ¬ 1 + (D : Int) < (s.size : Int) := by omega
        have r1 := Hn.out (Hz.out (by omega))
        subst r1
        clear Hh Hn Hy Hz HG HWG HWE HA HD
        go_wp2
        go_ret3
        exact ⟨⟨⟨#[]⟩, rfl, rfl⟩, Below.refl _ _⟩
end Go.Proofs.YtpeieagfndggbaaDoor
