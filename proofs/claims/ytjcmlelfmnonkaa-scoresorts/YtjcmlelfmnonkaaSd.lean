/-
  The plain theory of what is sorted: in order, and of each rank what there was, as it stood; that this is one list; how one more is put into it. No program's function is walked here. No conditions.
-/
import Derived.Test.YtjcmlelfmnonkaaBs
namespace Go.Proofs.Ytjcmlelfmnonkaa
open Go.Sort Go.Proofs.Ytjcmlelfmnonkaa.Fl
set_option linter.unusedVariables false

def Sd (l o : List Nat) : Prop := o.Pairwise (fun a b => rank a ≤ rank b) ∧ ∀ r, o.filter (fun x => rank x == r) = l.filter (fun x => rank x == r)
theorem one_list : ∀ (o1 o2 : List Nat), o1.Pairwise (fun a b => rank a ≤ rank b) → o2.Pairwise (fun a b => rank a ≤ rank b) → (∀ r, o1.filter (fun x => rank x == r) = o2.filter (fun x => rank x == r)) → o1 = o2
  | [], o2, h1, h2, hf => by
    cases o2 with
    | nil => rfl
    | cons y t =>
      have := hf (rank y)
      rw [List.filter_nil, List.filter_cons_of_pos (by simp)] at this
      cases this
  | x :: s, o2, h1, h2, hf => by
    cases o2 with
    | nil =>
      have := hf (rank x)
      rw [List.filter_nil, List.filter_cons_of_pos (by simp)] at this
      cases this
    | cons y t =>
      have h1' := List.pairwise_cons.1 h1
      have h2' := List.pairwise_cons.1 h2
      have mx : x ∈ y :: t := by
        have m : x ∈ (x :: s).filter (fun z => rank z == rank x) := List.mem_filter.2 ⟨List.mem_cons_self .., by simp⟩
        rw [hf] at m
        exact (List.mem_filter.1 m).1
      have my : y ∈ x :: s := by
        have m : y ∈ (y :: t).filter (fun z => rank z == rank y) := List.mem_filter.2 ⟨List.mem_cons_self .., by simp⟩
        rw [← hf] at m
        exact (List.mem_filter.1 m).1
      have le1 : rank y ≤ rank x := by
        rcases List.mem_cons.1 mx with e | e
        · rw [e]; exact Nat.le_refl _
        · exact h2'.1 x e
      have le2 : rank x ≤ rank y := by
        rcases List.mem_cons.1 my with e | e
        · rw [e]; exact Nat.le_refl _
        · exact h1'.1 y e
      have er : rank x = rank y := Nat.le_antisymm le2 le1
      have hx := hf (rank x)
      rw [List.filter_cons_of_pos (by simp), List.filter_cons_of_pos (by simp [er])] at hx
      obtain ⟨rfl, -⟩ := List.cons.inj hx
      congr 1
      refine one_list s t h1'.2 h2'.2 fun r => ?_
      have hr := hf r
      by_cases c : rank x = r
      · rw [List.filter_cons_of_pos (by simp [c]), List.filter_cons_of_pos (by simp [c])] at hr
        exact (List.cons.inj hr).2
      · rw [List.filter_cons_of_neg (by simp [c]), List.filter_cons_of_neg (by simp [c])] at hr
        exact hr
theorem sd_one {l o1 o2 : List Nat} (h1 : Sd l o1) (h2 : Sd l o2) : o1 = o2 := one_list o1 o2 h1.1 h2.1 fun r => (h1.2 r).trans (h2.2 r).symm
theorem sd_self {l o : List Nat} (h : Sd l o) : Sd o o := ⟨h.1, fun _ => rfl⟩
theorem sd_count {l o : List Nat} (h : Sd l o) (x : Nat) : o.count x = l.count x := by
  have e : ∀ m : List Nat, (m.filter (fun z => rank z == rank x)).count x = m.count x := fun m => List.count_filter (by simp)
  rw [← e o, ← e l, h.2]
theorem sd_nil : Sd [] [] := ⟨List.Pairwise.nil, fun _ => rfl⟩
theorem sd_step {l out : List Nat} {x k : Nat} (h : Sd l out) (hk : k ≤ out.length) (lo : ∀ (hp : 0 < k), rank (out[k - 1]'(by omega)) ≤ rank x) (hi : ∀ j, (hj : j < out.length) → k ≤ j → rank x < rank out[j]) :
    Sd (l ++ [x]) (out.take k ++ x :: out.drop k) := by
  have hp := List.pairwise_iff_getElem.1 h.1
  have tl : ∀ a ∈ out.take k, rank a ≤ rank x := fun a ha => by
    obtain ⟨i, hi1, rfl⟩ := List.mem_iff_getElem.1 ha
    rw [List.length_take] at hi1
    rw [List.getElem_take]
    have l1 := lo (by omega)
    rcases Nat.lt_or_ge i (k - 1) with c | c
    · exact Nat.le_trans (hp i (k - 1) (by omega) (by omega) c) l1
    · have : i = k - 1 := by omega
      subst this
      exact l1
  have dl : ∀ b ∈ out.drop k, rank x < rank b := fun b hb => by
    obtain ⟨i, hi1, rfl⟩ := List.mem_iff_getElem.1 hb
    rw [List.length_drop] at hi1
    rw [List.getElem_drop]
    exact hi (k + i) (by omega) (by omega)
  refine ⟨?_, fun r => ?_⟩
  · rw [List.pairwise_append]
    refine ⟨h.1.sublist (List.take_sublist _ _), List.pairwise_cons.2 ⟨fun b hb => Nat.le_of_lt (dl b hb), h.1.sublist (List.drop_sublist _ _)⟩, fun a ha b hb => ?_⟩
    rcases List.mem_cons.1 hb with rfl | hb
    · exact tl a ha
    · exact Nat.le_trans (tl a ha) (Nat.le_of_lt (dl b hb))
  · rw [List.filter_append, List.filter_append, ← h.2 r]
    conv => rhs; rw [← List.take_append_drop k out, List.filter_append]
    rw [List.append_assoc]
    congr 1
    by_cases c : rank x = r
    · rw [List.filter_cons_of_pos (by simp [c])]
      have e0 : (out.drop k).filter (fun z => rank z == r) = [] := by
        rw [List.filter_eq_nil_iff]
        intro b hb
        have := dl b hb
        simp only [beq_iff_eq]
        omega
      rw [e0, List.nil_append, List.filter_cons_of_pos (by simp [c]), List.filter_nil]
    · rw [List.filter_cons_of_neg (by simp [c]), List.filter_cons_of_neg (by simp [c]), List.filter_nil, List.append_nil]
theorem rl_list (d : Array Nat) : St.rl (fn d) 0 d.size = d.toList := by
  refine List.ext_getElem (by rw [St.rl_len]; simp) fun i h1 h2 => ?_
  rw [St.rl_len] at h1
  simp only [St.rl, List.getElem_map, List.getElem_range', Nat.one_mul, Nat.zero_add, fn, Array.getElem_toList]
  simp at h2
  simp [h2]
theorem md_self {x : Nat} (h : x < 18446744073709551616) : md x = x := Nat.mod_eq_of_lt h
theorem rk_self {x : Nat} (h : x < 18446744073709551616) : rk x = rank x := by unfold rk; rw [md_self h]
theorem mg_mem {d d' : Array Nat} {n : Nat} (hs : d.size = n) (hs' : d'.size = n) (m : Mg d 0 n d') (hx : ∀ x ∈ d.toList, x < 18446744073709551616) : ∀ x ∈ d'.toList, x < 18446744073709551616 := fun x h => by
  obtain ⟨i, hi, rfl⟩ := List.mem_iff_getElem.1 h
  have hi' : i < d'.size := by simpa using hi
  obtain ⟨j, j1, j2, j3⟩ := m.1.mem (Nat.zero_le i) (by omega)
  unfold fn at j3
  have hj : j < d.size := by omega
  have e1 : d'[i]! = d'.toList[i] := by simp [hi']
  have e2 : d[j]! = d.toList[j]'(by simpa using hj) := by simp [hj]
  rw [← e1, j3, e2]
  exact hx _ (List.getElem_mem _)
theorem mg_sd {d d' : Array Nat} {n : Nat} (hs : d.size = n) (hs' : d'.size = n) (m : Mg d 0 n d') (hx : ∀ x ∈ d.toList, x < 18446744073709551616) : Sd d.toList d'.toList := by
  have hx' := mg_mem hs hs' m hx
  have e1 := rl_list d
  have e2 := rl_list d'
  rw [hs] at e1
  rw [hs'] at e2
  refine ⟨List.pairwise_iff_getElem.2 fun i j hi hj hij => ?_, fun r => ?_⟩
  · have hj' : j < d'.size := by simpa using hj
    have hi' : i < d'.size := by simpa using hi
    have := m.2 i j (Nat.zero_le _) (Nat.le_of_lt hij) (by omega)
    unfold fn at this
    have f1 : d'[i]! = d'.toList[i] := by simp [hi']
    have f2 : d'[j]! = d'.toList[j] := by simp [hj']
    rw [f1, f2, rk_self (hx' _ (List.getElem_mem _)), rk_self (hx' _ (List.getElem_mem _))] at this
    exact this
  · have := m.1.2 r
    rw [e1, e2] at this
    have ef : ∀ l : List Nat, (∀ x ∈ l, x < 18446744073709551616) → l.filter (fun x => rk x == r) = l.filter (fun x => rank x == r) := fun l hl =>
      List.filter_congr fun x h => by rw [rk_self (hl x h)]
    rw [ef _ hx, ef _ hx'] at this
    exact this
end Go.Proofs.Ytjcmlelfmnonkaa
