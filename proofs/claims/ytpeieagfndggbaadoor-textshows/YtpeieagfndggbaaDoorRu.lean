/-
  The walk of the document's number: a space and a number that a line begins with. Conditions: at most 10^6 bytes.
-/
import Derived.Test.YtpeieagfndggbaaDoorRf
import Derived.Test.YtpeieagfndggbaaDoorUp
import Derived.Deep.QuietTactic
import Derived.BigQuiet
namespace Go.Proofs.YtpeieagfndggbaaDoor
open Go.RowKit Tx

theorem val_lt : ∀ (l : List Nat) (a : Nat), (∀ c ∈ l, isd c = true) → l.foldl (fun n c => 10 * n + (c - 48)) a < (a + 1) * 10 ^ l.length
  | [], a, _ => by simp
  | c :: l, a, h => by
    have hc := h c (List.mem_cons_self ..)
    unfold isd at hc
    rw [Bool.and_eq_true, decide_eq_true_eq, decide_eq_true_eq] at hc
    have ih := val_lt l (10 * a + (c - 48)) (fun x hx => h x (List.mem_cons_of_mem _ hx))
    rw [List.foldl_cons, List.length_cons, Nat.pow_succ]
    refine Nat.lt_of_lt_of_le ih ?_
    have h1 : 10 * a + (c - 48) + 1 ≤ (a + 1) * 10 := by omega
    calc (10 * a + (c - 48) + 1) * 10 ^ l.length ≤ ((a + 1) * 10) * 10 ^ l.length := Nat.mul_le_mul_right _ h1
      _ = (a + 1) * (10 ^ l.length * 10) := by rw [Nat.mul_assoc, Nat.mul_comm 10]
theorem val_ten {l : List Nat} (h : ∀ c ∈ l, isd c = true) (hl : l.length ≤ 10) : val l < 10000000000 := by
  have := val_lt l 0 h
  have h2 : (10 : Nat) ^ l.length ≤ 10 ^ 10 := Nat.pow_le_pow_right (by decide) hl
  unfold val
  omega
theorem val_take {l : List Nat} {j c : Nat} (h : l[j]? = some c) : val (l.take (j + 1)) = 10 * val (l.take j) + (c - 48) := by
  rw [List.take_add_one, h]
  exact val_snoc _ _
theorem while_get {l : List Nat} : ∀ {j : Nat}, j < (l.takeWhile isd).length → l[j]? = (l.takeWhile isd)[j]? := by
  intro j hj
  have e := List.takeWhile_append_dropWhile (p := isd) (l := l)
  conv => lhs; rw [← e]
  rw [List.getElem?_append_left hj]
theorem while_end {l : List Nat} {c : Nat} (h : l[(l.takeWhile isd).length]? = some c) : isd c = false := by
  induction l with
  | nil => simp at h
  | cons a l ih =>
    rw [List.takeWhile_cons] at h
    cases q : isd a
    · rw [q] at h
      simp at h
      rw [← h]; exact q
    · rw [q] at h
      simp only [if_true, List.length_cons, List.getElem?_cons_succ] at h
      exact ih h
def RuPost (w : World) (r : Nat × List Nat × Nat) (e : Ending) (w' : World) : Prop := (∃ t, nt t = r.2.1 ∧ e = .returned (.tuple #[.int .i64 r.1, .string t, .int .i64 r.2.2])) ∧ Below w.heap.size w w'
theorem num_short {most : Nat} {l : List Nat} (h : l.length < 2) : num most l = (0, [], 2) := by
  match l, h with
  | [], _ => rfl
  | [c], _ => unfold num; split <;> first | rfl | (rename_i he; simp at he)
theorem num_head {most a b : Nat} {l : List Nat} (h : a ≠ 32) : num most (a :: b :: l) = (0, [], 2) := by
  unfold num
  split
  · rename_i he; exact absurd (List.cons.inj he).1 h
  · rfl
set_option maxHeartbeats 1000000 in
set_option maxRecDepth 100000 in
theorem rnumber_any (s : ByteArray) (most : Nat) (w : World) (hs : s.size ≤ 1000000) : Calls Tryd.prog 27 #[.string s, .int .i64 most] w (RuPost w (num most (nt s))) := by
  by_cases h2 : s.size < 2
  · have hn : num most (nt s) = (0, [], 2) := num_short (by rw [nt_len]; exact h2)
    rw [hn]
    have i1 : (s.size : Int) < 2 := by omega
    go_enter Tryd.func27, Tryd.ntmps27
    go_wp2
    go_ret3
    exact ⟨⟨⟨#[]⟩, rfl, rfl⟩, Below.refl _ _⟩
  · have i1 : ¬ (s.size : Int) < 2 := by omega
    have j0 : 0 < s.size := by omega
    have j1 : 1 < s.size := by omega
    have g0 := byte_get j0
    have g1 := byte_get j1
    obtain ⟨A, hA⟩ : ∃ A : Nat, A = (s[0]'j0).toNat := ⟨_, rfl⟩
    obtain ⟨C, hC⟩ : ∃ C : Nat, C = (s[1]'j1).toNat := ⟨_, rfl⟩
    have hAI : (((s[0]'j0).toNat : Nat) : Int) = A := by rw [hA]
    have hCI : (((s[1]'j1).toNat : Nat) : Int) = C := by rw [hC]
    rw [← hA] at g0
    rw [← hC] at g1
    clear hA hC
    obtain ⟨T, hT⟩ : ∃ T, nt s = A :: C :: T := by
      match e : nt s, g0, g1 with
      | a :: c :: t, g0, g1 =>
        simp only [List.getElem?_cons_zero, Option.some.injEq] at g0
        simp only [List.getElem?_cons_succ, List.getElem?_cons_zero, Option.some.injEq] at g1
        subst g0 g1
        exact ⟨t, rfl⟩
    clear g0 g1
    by_cases hA : A = 32
    · have q1 : ((A : Int) != 32) = false := by simp; omega
      by_cases c1 : C < 49
      · have i2 : (C : Int) < 49 := by omega
        have hn : num most (nt s) = (0, [], 2) := by rw [hT, hA, num_cons, if_neg (by omega)]
        rw [hn]
        clear hT hn
        go_enter Tryd.func27, Tryd.ntmps27
        go_wp2
        go_ret3
        exact ⟨⟨⟨#[]⟩, rfl, rfl⟩, Below.refl _ _⟩
      · have i2 : ¬ (C : Int) < 49 := by omega
        by_cases c2 : 57 < C
        · have i3 : 57 < (C : Int) := by omega
          have hn : num most (nt s) = (0, [], 2) := by rw [hT, hA, num_cons, if_neg (by omega)]
          rw [hn]
          clear hT hn
          go_enter Tryd.func27, Tryd.ntmps27
          go_wp2
          go_ret3
          exact ⟨⟨⟨#[]⟩, rfl, rfl⟩, Below.refl _ _⟩
        · have i3 : ¬ 57 < (C : Int) := by omega
          have hn : num most (nt s) = if 10 < ((C :: T).takeWhile isd).length ∨ most < val (((C :: T).takeWhile isd).take 10) then (0, [], 1) else (val ((C :: T).takeWhile isd), (C :: T).dropWhile isd, 0) := (congrArg (num most) hT).trans (by rw [hA, num_cons, if_pos (by omega)])
          obtain ⟨r, hr⟩ : ∃ r, num most (nt s) = r := ⟨_, rfl⟩
          rw [hr] at hn ⊢
          clear hr
          rw [drop_while] at hn
          have hall := all_digits (C :: T)
          have hget : ∀ P (h : P < s.size), 1 ≤ P → (C :: T)[P - 1]? = some (s[P]'h).toNat := by
            intro P h hp
            have e := byte_get h
            rw [hT] at e
            obtain ⟨q, rfl⟩ : ∃ q, P = q + 1 := ⟨P - 1, by omega⟩
            exact e
          have hwl : ((C :: T).takeWhile isd).length + 1 ≤ s.size := by
            have h1 := (List.takeWhile_prefix (l := C :: T) isd).length_le
            have h2 := nt_len s
            rw [hT] at h2
            simp only [List.length_cons] at h1 h2 ⊢
            omega
          have hwg := fun j => while_get (l := C :: T) (j := j)
          have hwe := fun c => while_end (l := C :: T) (c := c)
          have htail : nt (s.extract (1 + ((C :: T).takeWhile isd).length) s.size) = (C :: T).drop ((C :: T).takeWhile isd).length := by
            rw [nt_hd, hT, Nat.add_comm 1]; rfl
          generalize hW : (C :: T).takeWhile isd = W at *
          clear hT hW
          generalize hD : W.length = D at *
          have HN := Lib.hid hn
          have HG := Lib.hid hget
          have HWG := Lib.hid hwg
          have HWE := Lib.hid hwe
          have HT := Lib.hid htail
          have HA := Lib.hid hall
          have HD := Lib.hid hD
          clear hn hget hwg hwe htail hall hD
          go_enter Tryd.func27, Tryd.ntmps27
          go_wp2
          go_loop [7, 8] (fun x y => ∃ P v : Nat, x = .int .i64 (v : Int) ∧ y = .int .i64 (P : Int) ∧ 1 ≤ P ∧ P ≤ 1 + D ∧ Hid (v = val (W.take (min (P - 1) 10)))) (fun _ y => s.size - (intOf y).toNat)
          case atStart => exact ⟨1, 0, rfl, rfl, Nat.le_refl _, by omega, rfl⟩
          case round =>
            obtain ⟨P, v, rfl, rfl, p1, p2, hv⟩ := hrel
            have hv10 : v < 10000000000 := by
              rw [hv.out]
              refine val_ten (fun c hc => HA.out c (List.mem_of_mem_take hc)) ?_
              rw [List.length_take]; omega
            by_cases hlt : P < 1 + D
            · have hin : P < s.size := by omega
              have k0 : (0 : Int) ≤ (P : Int) := by omega
              have k1 : (P : Int) < (s.size : Int) := by omega
              obtain ⟨X, hX⟩ : ∃ X : Nat, X = (s[P]'hin).toNat := ⟨_, rfl⟩
              have hXI : (((s[P]'hin).toNat : Nat) : Int) = X := by rw [hX]
              have hWX : W[P - 1]? = some X := by
                rw [← HWG.out (P - 1) (by omega), HG.out P hin p1, hX]
              have hdx := HA.out X (List.mem_of_getElem? hWX)
              unfold isd at hdx
              rw [Bool.and_eq_true, decide_eq_true_eq, decide_eq_true_eq] at hdx
              obtain ⟨x1, x2⟩ := hdx
              have HWX := Lib.hid hWX
              clear hX hWX
              have k2 : (48 : Int) ≤ (X : Int) := by omega
              have k3 : (X : Int) ≤ 57 := by omega
              by_cases h10 : P ≤ 10
              · have k4 : (P : Int) ≤ 10 := by omega
                go_wp2
                go_round
                case rel =>
                  refine ⟨P + 1, 10 * v + (X - 48), by go_num, by go_num, by omega, by omega, ?_⟩
                  show _ = _
                  have e1 : min (P + 1 - 1) 10 = (P - 1) + 1 := by omega
                  have e2 : min (P - 1) 10 = P - 1 := by omega
                  have hv' := hv.out
                  rw [e2] at hv'
                  rw [e1, val_take HWX.out, hv']
                case measure => simp [intOf]; omega
              · have k4 : ¬ (P : Int) ≤ 10 := by omega
                go_wp2
                go_round
                case rel =>
                  refine ⟨P + 1, v, rfl, by go_num, by omega, by omega, ?_⟩
                  show _ = _
                  have e1 : min (P + 1 - 1) 10 = 10 := by omega
                  have e2 : min (P - 1) 10 = 10 := by omega
                  have hv' := hv.out
                  rw [e2] at hv'
                  rw [e1, hv']
                case measure => simp [intOf]; omega
            · obtain rfl : P = 1 + D := by omega
              have hvt : v = val (W.take 10) := by
                rw [hv.out]
                congr 1
                rcases Nat.lt_or_ge D 10 with q | q
                · rw [List.take_of_length_le (by rw [HD.out]; omega), List.take_of_length_le (by rw [HD.out]; omega)]
                · congr 1; omega
              have k5 : ((1 + D : Nat) : Int) = 1 + (D : Int) := by omega
              have HV := Lib.hid hvt
              clear hvt hv
              by_cases hin : 1 + D < s.size
              · have k0 : (0 : Int) ≤ 1 + (D : Int) := by omega
                have k1 : 1 + (D : Int) < (s.size : Int) := by omega
                obtain ⟨X, hX⟩ : ∃ X : Nat, X = (s[1 + D]'hin).toNat := ⟨_, rfl⟩
                have hXI : (((s[1 + D]'hin).toNat : Nat) : Int) = X := by rw [hX]
                have hXn : isd X = false := HWE.out X (by
                  have := HG.out (1 + D) hin (by omega)
                  rw [Nat.add_sub_cancel_left] at this
                  rw [this, hX])
                clear hX
                have hx : ¬ (48 ≤ X ∧ X ≤ 57) := by
                  rintro ⟨q1, q2⟩
                  unfold isd at hXn
                  rw [decide_eq_true q1, decide_eq_true q2] at hXn
                  cases hXn
                clear hXn
                by_cases x1 : X < 48
                · have k2 : ¬ (48 : Int) ≤ (X : Int) := by omega
                  by_cases d10 : 10 < D
                  · have r1 : r = (0, [], 1) := HN.out.trans (if_pos (.inl d10))
                    subst r1
                    have k6 : 11 < 1 + (D : Int) := by omega
                    clear HN HG HWG HWE HA HD
                    go_wp2
                    go_ret3
                    exact ⟨⟨⟨#[]⟩, rfl, rfl⟩, Below.refl _ _⟩
                  · have k6 : ¬ 11 < 1 + (D : Int) := by omega
                    by_cases dm : most < v
                    · have r1 : r = (0, [], 1) := HN.out.trans (if_pos (.inr (by rw [← HV.out]; exact dm)))
                      subst r1
                      have k7 : (most : Int) < (v : Int) := by omega
                      clear HN HG HWG HWE HA HD
                      go_wp2
                      go_ret3
                      exact ⟨⟨⟨#[]⟩, rfl, rfl⟩, Below.refl _ _⟩
                    · have r1 : r = (v, (C :: T).drop D, 0) := HN.out.trans ((if_neg (by
                        rintro (q | q)
                        · exact d10 q
                        · rw [← HV.out] at q; exact dm q)).trans (by
                          rw [HV.out, List.take_of_length_le (by rw [HD.out]; omega)]))
                      subst r1
                      have k7 : ¬ (most : Int) < (v : Int) := by omega
                      have k8 : (0 : Int) ≤ 1 + (D : Int) := by omega
                      have k9 : 1 + (D : Int) ≤ (s.size : Int) := by omega
                      clear HN HG HWG HWE HA HD
                      go_wp2
                      go_quiet (fail)
                      go_wp2
                      go_ret3
                      exact ⟨⟨s.extract (1 + D) s.size, HT.out, rfl⟩, ⟨rfl, rfl, rfl, Nat.le_refl _, fun _ _ => rfl⟩⟩
                · have k2 : (48 : Int) ≤ (X : Int) := by omega
                  have k3 : ¬ (X : Int) ≤ 57 := by omega
                  by_cases d10 : 10 < D
                  · have r1 : r = (0, [], 1) := HN.out.trans (if_pos (.inl d10))
                    subst r1
                    have k6 : 11 < 1 + (D : Int) := by omega
                    clear HN HG HWG HWE HA HD
                    go_wp2
                    go_ret3
                    exact ⟨⟨⟨#[]⟩, rfl, rfl⟩, Below.refl _ _⟩
                  · have k6 : ¬ 11 < 1 + (D : Int) := by omega
                    by_cases dm : most < v
                    · have r1 : r = (0, [], 1) := HN.out.trans (if_pos (.inr (by rw [← HV.out]; exact dm)))
                      subst r1
                      have k7 : (most : Int) < (v : Int) := by omega
                      clear HN HG HWG HWE HA HD
                      go_wp2
                      go_ret3
                      exact ⟨⟨⟨#[]⟩, rfl, rfl⟩, Below.refl _ _⟩
                    · have r1 : r = (v, (C :: T).drop D, 0) := HN.out.trans ((if_neg (by
                        rintro (q | q)
                        · exact d10 q
                        · rw [← HV.out] at q; exact dm q)).trans (by
                          rw [HV.out, List.take_of_length_le (by rw [HD.out]; omega)]))
                      subst r1
                      have k7 : ¬ (most : Int) < (v : Int) := by omega
                      have k8 : (0 : Int) ≤ 1 + (D : Int) := by omega
                      have k9 : 1 + (D : Int) ≤ (s.size : Int) := by omega
                      clear HN HG HWG HWE HA HD
                      go_wp2
                      go_quiet (fail)
                      go_wp2
                      go_ret3
                      exact ⟨⟨s.extract (1 + D) s.size, HT.out, rfl⟩, ⟨rfl, rfl, rfl, Nat.le_refl _, fun _ _ => rfl⟩⟩
              · have k1 : ¬ 1 + (D : Int) < (s.size : Int) := by omega
                by_cases d10 : 10 < D
                · have r1 : r = (0, [], 1) := HN.out.trans (if_pos (.inl d10))
                  subst r1
                  have k6 : 11 < 1 + (D : Int) := by omega
                  clear HN HG HWG HWE HA HD
                  go_wp2
                  go_ret3
                  exact ⟨⟨⟨#[]⟩, rfl, rfl⟩, Below.refl _ _⟩
                · have k6 : ¬ 11 < 1 + (D : Int) := by omega
                  by_cases dm : most < v
                  · have r1 : r = (0, [], 1) := HN.out.trans (if_pos (.inr (by rw [← HV.out]; exact dm)))
                    subst r1
                    have k7 : (most : Int) < (v : Int) := by omega
                    clear HN HG HWG HWE HA HD
                    go_wp2
                    go_ret3
                    exact ⟨⟨⟨#[]⟩, rfl, rfl⟩, Below.refl _ _⟩
                  · have r1 : r = (v, (C :: T).drop D, 0) := HN.out.trans ((if_neg (by
                      rintro (q | q)
                      · exact d10 q
                      · rw [← HV.out] at q; exact dm q)).trans (by
                        rw [HV.out, List.take_of_length_le (by rw [HD.out]; omega)]))
                    subst r1
                    have k7 : ¬ (most : Int) < (v : Int) := by omega
                    have k8 : (0 : Int) ≤ 1 + (D : Int) := by omega
                    have k9 : 1 + (D : Int) ≤ (s.size : Int) := by omega
                    clear HN HG HWG HWE HA HD
                    go_wp2
                    go_quiet (fail)
                    go_wp2
                    go_ret3
                    exact ⟨⟨s.extract (1 + D) s.size, HT.out, rfl⟩, ⟨rfl, rfl, rfl, Nat.le_refl _, fun _ _ => rfl⟩⟩
    · have q1 : ((A : Int) != 32) = true := by simp; omega
      have hn : num most (nt s) = (0, [], 2) := by rw [hT]; exact num_head hA
      rw [hn]
      clear hT hn
      go_enter Tryd.func27, Tryd.ntmps27
      go_wp2
      go_ret3
      exact ⟨⟨⟨#[]⟩, rfl, rfl⟩, Below.refl _ _⟩
end Go.Proofs.YtpeieagfndggbaaDoor
