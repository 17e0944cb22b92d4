/-
  Numbers in decimal digits: the library's words for what Atoi and Itoa answer are the plain theory's; the numbers that a line begins with, as the program asks for them. No program's function is walked here. No conditions.
-/
import Derived.Test.YtpeieagfndggbaaDoorBy
import Derived.Lib.Atoi
import Derived.Lib.ItoaNum
namespace Go.Proofs.YtpeieagfndggbaaDoor
open Tx

theorem decFrom_val : ∀ (l : List UInt8) (acc : Nat), (∀ c ∈ l.map UInt8.toNat, isd c = true) → Lib.decFrom acc l = some ((l.map UInt8.toNat).foldl (fun n c => 10 * n + (c - 48)) acc)
  | [], acc, _ => rfl
  | b :: l, acc, h => by
    have hb := h b.toNat (List.mem_cons_self ..)
    unfold isd at hb
    rw [Bool.and_eq_true, decide_eq_true_eq, decide_eq_true_eq] at hb
    have hd : Lib.digitVal b = some (b.toNat - 48) := by unfold Lib.digitVal; rw [if_pos hb]
    show (match Lib.digitVal b with | some d => Lib.decFrom (acc * 10 + d) l | none => none) = _
    rw [hd]
    show Lib.decFrom (acc * 10 + (b.toNat - 48)) l = _
    rw [decFrom_val l _ (fun c hc => h c (List.mem_cons_of_mem _ hc)), Nat.mul_comm acc 10, List.map_cons, List.foldl_cons]
theorem atoi_val {l : List UInt8} (hl : l ≠ []) (h : ∀ c ∈ l.map UInt8.toNat, isd c = true) : Lib.atoi l = some ((val (l.map UInt8.toNat) : Nat) : Int) := by
  cases l with
  | nil => exact absurd rfl hl
  | cons b r =>
    have hb := h b.toNat (List.mem_cons_self ..)
    unfold isd at hb
    rw [Bool.and_eq_true, decide_eq_true_eq, decide_eq_true_eq] at hb
    have h1 : (b == 45) = false := by rw [beq_eq_false_iff_ne]; rintro rfl; revert hb; decide
    have h2 : (b == 43) = false := by rw [beq_eq_false_iff_ne]; rintro rfl; revert hb; decide
    have e : Lib.atoi (b :: r) = if b == 45 then (Lib.decNat r).map fun (m : Nat) => -(m : Int) else if b == 43 then (Lib.decNat r).map fun (m : Nat) => (m : Int) else (Lib.decNat (b :: r)).map fun (m : Nat) => (m : Int) := rfl
    rw [e, h1, h2]
    have := decFrom_val (b :: r) 0 h
    show (Lib.decNat (b :: r)).map _ = _
    unfold Lib.decNat
    rw [if_neg (by simp), this]
    rfl
theorem decDigits_dg (u : Nat) (h : 0 < u) : (Lib.decDigits u).map UInt8.toNat = dg u := by
  induction u using Nat.strongRecOn with
  | ind u ih =>
    have ht : ∀ k, k < 10 → (UInt8.ofNat (48 + k)).toNat = 48 + k := fun k hk => by
      show (48 + k) % 256 = _
      omega
    rw [Lib.decDigits, dg_pos h]
    by_cases h1 : u < 10
    · rw [dif_pos h1, Nat.div_eq_of_lt h1, dg_zero, Nat.mod_eq_of_lt h1]
      show [(UInt8.ofNat (48 + u)).toNat] = _
      rw [ht u h1]; rfl
    · rw [dif_neg h1, List.map_append, ih (u / 10) (by omega) (by omega)]
      show _ ++ [(UInt8.ofNat (48 + u % 10)).toNat] = _
      rw [ht _ (by omega)]
theorem itoa_dg {n : Int} (h : 0 < n) : (Lib.itoa n).map UInt8.toNat = dg n.toNat := by
  unfold Lib.itoa
  rw [if_neg (by omega)]
  exact decDigits_dg _ (by omega)

theorem drop_while (t : List Nat) : t.dropWhile isd = t.drop (t.takeWhile isd).length := by
  have e := List.takeWhile_append_dropWhile (p := isd) (l := t)
  have h2 := List.drop_left (l₁ := t.takeWhile isd) (l₂ := t.dropWhile isd)
  rw [e] at h2
  exact h2.symm
/-- A number that a line begins with, as the program asks for it. -/
def nway (most : Nat) (l : List Nat) : Nat × List Nat × Nat :=
  if l.head? = some 32 then
    (if (l.tail.takeWhile isd).length = 0 ∨ l.tail.head? = some 48 then (0, [], 2)
     else if 10 < (l.tail.takeWhile isd).length then (0, [], 1)
     else if most < val (l.tail.takeWhile isd) then (0, [], 1) else (val (l.tail.takeWhile isd), l.tail.drop (l.tail.takeWhile isd).length, 0))
  else (0, [], 2)
theorem num_way2 (most c : Nat) (t : List Nat) : num most (32 :: c :: t) = nway most (32 :: c :: t) := by
  unfold nway
  rw [num_cons, List.head?_cons, if_pos rfl, List.tail_cons]
  by_cases hc : 49 ≤ c ∧ c ≤ 57
  · have hd : isd c = true := by unfold isd; rw [decide_eq_true (by omega), decide_eq_true (by omega)]; rfl
    have hn : ((c :: t).takeWhile isd).length ≠ 0 := by rw [List.takeWhile_cons, hd]; simp
    have h0 : ¬ (((c :: t).takeWhile isd).length = 0 ∨ (c :: t).head? = some 48) := by
      rintro (h | h)
      · exact hn h
      · simp only [List.head?_cons, Option.some.injEq] at h; omega
    rw [if_pos hc, if_neg h0, drop_while]
    by_cases h10 : 10 < ((c :: t).takeWhile isd).length
    · rw [if_pos h10, if_pos (.inl h10)]
    · rw [if_neg h10, List.take_of_length_le (by omega)]
      by_cases hm : most < val ((c :: t).takeWhile isd)
      · rw [if_pos hm, if_pos (.inr hm)]
      · rw [if_neg hm, if_neg (by rintro (h | h) <;> contradiction)]
  · rw [if_neg hc]
    have h0 : ((c :: t).takeWhile isd).length = 0 ∨ (c :: t).head? = some 48 := by
      by_cases h48 : c = 48
      · right; rw [h48]; rfl
      · left
        have hd : isd c = false := by unfold isd; rw [← Bool.not_eq_true, Bool.and_eq_true, decide_eq_true_eq, decide_eq_true_eq]; omega
        rw [List.takeWhile_cons, hd]; rfl
    rw [if_pos h0]
theorem num_way (most : Nat) (l : List Nat) : num most l = nway most l := by
  match l with
  | [] => rfl
  | [c] =>
    have h : num most [c] = (0, [], 2) := by unfold num; split <;> first | rfl | (rename_i he; simp at he)
    rw [h]; unfold nway
    split <;> simp
  | c :: d :: u =>
    by_cases h : c = 32
    · subst h; exact num_way2 most d u
    · unfold nway
      rw [List.head?_cons, if_neg (by simpa using h)]
      unfold num
      split
      · rename_i he; exact absurd (List.cons.inj he).1 h
      · rfl
end Go.Proofs.YtpeieagfndggbaaDoor
