/-
  Plain facts of what counts: how many there are, of which state, and what is made of them. No program's function is walked here. No conditions.
-/
import Derived.Test.YtgmfjoegfbaebaaRgAw
namespace Go.Proofs.Ytgmfjoegfbaebaa.Rg
open Go.RowKit In
set_option linter.unusedVariables false

/-- Those of P whose place is from 1 to n. -/
def upto (P : Rp → Bool) (n : Nat) (L : List Rp) : List Rp := L.filter fun x => P x && (decide (1 ≤ x.f) && decide (x.f ≤ (n : Int)))
/-- Those of P of place n + 1. -/
def here (P : Rp → Bool) (n : Nat) (L : List Rp) : List Rp := L.filter fun x => P x && decide (x.f = (n : Int) + 1)
theorem upto_succ (P : Rp → Bool) (n : Nat) : ∀ L, (upto P (n + 1) L).length = (upto P n L).length + (here P n L).length
  | [] => rfl
  | x :: L => by
    have ih := upto_succ P n L
    unfold upto here at *
    have key : ((P x && (decide (1 ≤ x.f) && decide (x.f ≤ (n : Int)))) = true ∧ (P x && (decide (1 ≤ x.f) && decide (x.f ≤ ((n + 1 : Nat) : Int)))) = true ∧ (P x && decide (x.f = (n : Int) + 1)) = false) ∨
        ((P x && (decide (1 ≤ x.f) && decide (x.f ≤ (n : Int)))) = false ∧ (P x && (decide (1 ≤ x.f) && decide (x.f ≤ ((n + 1 : Nat) : Int)))) = true ∧ (P x && decide (x.f = (n : Int) + 1)) = true) ∨
        ((P x && (decide (1 ≤ x.f) && decide (x.f ≤ (n : Int)))) = false ∧ (P x && (decide (1 ≤ x.f) && decide (x.f ≤ ((n + 1 : Nat) : Int)))) = false ∧ (P x && decide (x.f = (n : Int) + 1)) = false) := by
      rcases P x with _ | _
      · exact .inr (.inr ⟨rfl, rfl, rfl⟩)
      · simp only [Bool.true_and, Bool.and_eq_true, decide_eq_true_eq, Bool.and_eq_false_iff, decide_eq_false_iff_not]
        omega
    simp only [List.filter_cons]
    rcases key with ⟨h1, h2, h3⟩ | ⟨h1, h2, h3⟩ | ⟨h1, h2, h3⟩
    · rw [if_pos h1, if_pos h2, if_neg (by rw [h3]; decide), List.length_cons, List.length_cons]
      omega
    · rw [if_pos h2, if_neg (by rw [h1]; decide), if_pos h3, List.length_cons, List.length_cons]
      omega
    · rw [if_neg (by rw [h2]; decide), if_neg (by rw [h1]; decide), if_neg (by rw [h3]; decide)]
      exact ih
theorem upto_zero (P : Rp → Bool) (L : List Rp) : upto P 0 L = [] := by
  unfold upto
  rw [List.filter_eq_nil_iff]
  intro x _
  simp
  omega
theorem fd_f {L : List Rp} {i : Nat} {x : Rp} (h : fd L i = some x) : x.f = (i : Int) + 1 := by
  have := List.find?_some h
  simpa using this
theorem here_pos {P : Rp → Bool} {L : List Rp} {i : Nat} {x : Rp} (h : fd L i = some x) (hp : P x = true) : 1 ≤ (here P i L).length := by
  have : x ∈ here P i L := by
    unfold here
    rw [List.mem_filter]
    exact ⟨fd_mem h, by simp [hp, fd_f h]⟩
  exact List.length_pos_of_mem this
theorem ct_le (P : Rp → Bool) (L : List Rp) : ∀ n, ((ct L n).filter P).length ≤ (upto P n L).length
  | 0 => by simp [ct]
  | n + 1 => by
    have ih := ct_le P L n
    rw [ct_succ, List.filter_append, List.length_append, upto_succ]
    rcases h : fd L n with _ | x
    · simp
      omega
    · rcases hp : P x with _ | _
      · simp [hp]
        omega
      · have := here_pos h hp
        simp [hp]
        omega
theorem filter_and_le (P Q : Rp → Bool) : ∀ L : List Rp, (L.filter fun x => P x && Q x).length ≤ (L.filter P).length
  | [] => Nat.le_refl _
  | x :: L => by
    have ih := filter_and_le P Q L
    simp only [List.filter_cons]
    rcases P x with _ | _ <;> rcases Q x with _ | _ <;> simp <;> omega
theorem upto_le (P : Rp → Bool) (n : Nat) (L : List Rp) : (upto P n L).length ≤ (L.filter P).length := filter_and_le P _ L
/-- No more count than there are. -/
theorem ct_all (P : Rp → Bool) (L : List Rp) (n : Nat) (h : ∀ x ∈ ct L n, P x = true) : (ct L n).length ≤ (L.filter P).length := by
  have h1 := ct_le P L n
  have h2 := upto_le P n L
  rw [List.filter_eq_self.2 h] at h1
  omega
theorem ct_le_len (L : List Rp) (n : Nat) : (ct L n).length ≤ L.length := by
  have := ct_all (fun _ => true) L n (fun _ _ => rfl)
  have h := List.length_filter_le (fun (_ : Rp) => true) L
  omega

/-- Of which state what is greatest, what all agree on, what is committed is. -/
theorem gt_st {s : Int} : ∀ {l : List Rp} {y : Rp}, gt s l = some y → y.r.st = s := by
  intro l y h
  suffices H : ∀ (l : List Rp) (m : Option Rp), (∀ y, m = some y → y.r.st = s) → ∀ y, l.foldl (gs s) m = some y → y.r.st = s by
    exact H l none (fun y h => by cases h) y h
  intro l
  induction l with
  | nil => exact fun m hm y h => hm y h
  | cons x t ih =>
    intro m hm y h
    refine ih (gs s m x) (fun z hz => ?_) y h
    rcases m with _ | u
    · by_cases hc : x.r.st = s
      · rw [show gs s none x = some x from if_pos hc] at hz
        cases hz
        exact hc
      · rw [show gs s none x = none from if_neg hc] at hz
        cases hz
    · by_cases hc : x.r.st = s ∧ 0 < cv2 x u
      · rw [show gs s (some u) x = some x from if_pos hc] at hz
        cases hz
        exact hc.1
      · rw [show gs s (some u) x = some u from if_neg hc] at hz
        cases hz
        exact hm _ rfl
theorem gt_none {s : Int} : ∀ {l : List Rp}, gt s l = none → ∀ x ∈ l, x.r.st ≠ s := by
  intro l h
  suffices H : ∀ (l : List Rp) (m : Option Rp), l.foldl (gs s) m = none → m = none ∧ ∀ x ∈ l, x.r.st ≠ s from (H l none h).2
  intro l
  induction l with
  | nil => exact fun m h => ⟨h, fun x hx => by cases hx⟩
  | cons x t ih =>
    intro m h
    obtain ⟨h1, h2⟩ := ih (gs s m x) h
    rcases m with _ | u
    · by_cases hc : x.r.st = s
      · rw [show gs s none x = some x from if_pos hc] at h1
        cases h1
      · exact ⟨rfl, fun y hy => by
          rcases List.mem_cons.1 hy with rfl | hy
          · exact hc
          · exact h2 y hy⟩
    · by_cases hc : x.r.st = s ∧ 0 < cv2 x u
      · rw [show gs s (some u) x = some x from if_pos hc] at h1
        cases h1
      · rw [show gs s (some u) x = some u from if_neg hc] at h1
        cases h1
theorem ag_fi {o : Int} {l : List Rp} {y : Rp} (h : ag o l = some y) : fi o y.r = true := by
  rcases l with _ | ⟨x, t⟩
  · cases h
  · rw [ag_cons] at h
    split at h
    · rename_i hc
      cases h
      exact hc.1
    · cases h
theorem fi_st {o : Int} {r : Rd} (h : fi o r = true) : r.st = 1 := by
  unfold fi at h
  simp at h
  exact h.1
theorem dn_st {l : List Rp} {y : Rp} (h : dn l = some y) : y.r.st = 3 := by
  have := List.find?_some h
  simpa using this
theorem tk_st {l : List Rp} {y : Rp} (h : tk l = some y) : y.r.st = 2 ∧ y ∈ l := by
  unfold tk at h
  split at h
  · cases h
  · rename_i a ha
    split at h
    · cases h; exact ⟨gt_st ha, gt_mem ha⟩
    · split at h
      · cases h
      · cases h; exact ⟨gt_st ha, gt_mem ha⟩

/-- Told as done just where somebody who counts has committed. -/
theorem dc_k1 {o : Int} {n : Nat} {l : List Rp} (h : dn l = none) : (dc o n l).k ≠ 1 := by
  unfold dc
  rw [h]
  show (if l.length < n / 2 + 1 then c0 else _).k ≠ 1
  split
  · show (0 : Int) ≠ 1
    decide
  · split
    · show (2 : Int) ≠ 1
      decide
    · split
      · show (2 : Int) ≠ 1
        decide
      · split
        · show (3 : Int) ≠ 1
          decide
        · show (4 : Int) ≠ 1
          decide
/-- What a choice's kind says of its command. -/
theorem dc_told {o : Int} {n : Nat} {L : List Rp} (h4 : (dc o n (ct L n)).k ≠ 4) (h0 : (dc o n (ct L n)).k ≠ 0) :
    ∃ x ∈ L, (x.r.st = 1 ∨ x.r.st = 2 ∨ x.r.st = 3) ∧ x.r.u = (dc o n (ct L n)).u ∧ x.r.s = (dc o n (ct L n)).s ∧ x.r.k = (dc o n (ct L n)).d ∧ x.r.h = (dc o n (ct L n)).h ∧ x.r.n = (dc o n (ct L n)).n ∧ x.r.t = (dc o n (ct L n)).t := by
  rcases hd : dn (ct L n) with _ | x
  · by_cases hq : (ct L n).length < n / 2 + 1
    · rw [dc_wait hd hq] at h0
      exact absurd rfl h0
    · rcases ht : tk (ct L n) with _ | x
      · rcases ha : ag o (ct L n) with _ | x
        · rcases hg : gt 1 (ct L n) with _ | x
          · rw [dc_fill hd hq ht ha hg] at h4
            exact absurd rfl h4
          · rw [dc_again hd hq ht ha hg]
            exact ⟨x, ct_mem (gt_mem hg), .inl (gt_st hg), rfl, rfl, rfl, rfl, rfl, rfl⟩
        · rw [dc_first hd hq ht ha]
          exact ⟨x, ct_mem (ag_mem ha), .inl (fi_st (ag_fi ha)), rfl, rfl, rfl, rfl, rfl, rfl⟩
      · rw [dc_take hd hq ht]
        exact ⟨x, ct_mem (tk_st ht).2, .inr (.inl (tk_st ht).1), rfl, rfl, rfl, rfl, rfl, rfl⟩
  · rw [dc_done hd]
    exact ⟨x, ct_mem (dn_mem hd), .inr (.inr (dn_st hd)), rfl, rfl, rfl, rfl, rfl, rfl⟩
/-- Knows it nothing? -/
def nn (x : Rp) : Bool := !(x.r.st == 1) && !(x.r.st == 2) && !(x.r.st == 3)
theorem dc_fills {o : Int} {n : Nat} {L : List Rp} (h4 : (dc o n (ct L n)).k = 4) : dc o n (ct L n) = c4 ∧ n / 2 + 1 ≤ (L.filter nn).length := by
  rcases hd : dn (ct L n) with _ | x
  · by_cases hq : (ct L n).length < n / 2 + 1
    · rw [dc_wait hd hq] at h4
      cases h4
    · rcases ht : tk (ct L n) with _ | x
      · rcases ha : ag o (ct L n) with _ | x
        · rcases hg : gt 1 (ct L n) with _ | x
          · refine ⟨dc_fill hd hq ht ha hg, ?_⟩
            have h2 : gt 2 (ct L n) = none := by
              rcases h2 : gt 2 (ct L n) with _ | a
              · rfl
              · unfold tk at ht
                rw [h2, hg] at ht
                cases ht
            have hall : ∀ x ∈ ct L n, nn x = true := fun x hx => by
              have e1 := gt_none hg x hx
              have e2 := gt_none h2 x hx
              have e3 : x.r.st ≠ 3 := by
                have := List.find?_eq_none.1 hd x hx
                simpa using this
              simp [nn, e1, e2, e3]
            have := ct_all nn L n hall
            omega
          · rw [dc_again hd hq ht ha hg] at h4
            cases h4
        · rw [dc_first hd hq ht ha] at h4
          cases h4
      · rw [dc_take hd hq ht] at h4
        cases h4
  · rw [dc_done hd] at h4
    cases h4

end Go.Proofs.Ytgmfjoegfbaebaa.Rg
