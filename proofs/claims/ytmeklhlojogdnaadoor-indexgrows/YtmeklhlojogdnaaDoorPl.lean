/-
  Plain mathematics of package index, with nothing of the program in it: what a command waits for, as a number and a list of deps that are just as great as what is met; what is known, as a list. No conditions.
-/
import Derived.Test.YtmeklhlojogdnaaDoorItf
import Derived.Test.YtmeklhlojogdnaaDoorAtPlain
namespace Go.Proofs.YtmeklhlojogdnaaDoor
set_option linter.unusedVariables false

instance : DecidableEq Ky := fun x y =>
  if h : x.a = y.a ∧ x.i = y.i ∧ x.c = y.c then .isTrue (by cases x; cases y; simp_all) else .isFalse (fun e => h (by subst e; exact ⟨rfl, rfl, rfl⟩))

/-- One more; the greatest number stays. -/
def sn (q : Int) : Int := min q 9223372036854775806 + 1
theorem sn_mono {p q : Int} (h : p ≤ q) : sn p ≤ sn q := by unfold sn; omega
theorem sn_low {q : Int} (h : q ≤ 1099511627776) : sn q = q + 1 := by unfold sn; omega

/-- The number s and the deps ds are just as great as those of which P holds ask. -/
structure IsAt (P : Int × Int → Int → Prop) (N : Nat) (s : Int) (ds : List Int) : Prop where
  len : ds.length = N
  pos : 1 ≤ s
  nn : ∀ j, 0 ≤ ds.getD j 0
  sup : ∀ i q, P i q → sn q ≤ s ∧ i.2 ≤ ds.getD (i.1 - 1).toNat 0
  one : s = 1 ∨ ∃ i q, P i q ∧ s = sn q
  dep : ∀ j, ds.getD j 0 = 0 ∨ ∃ i q, P i q ∧ (i.1 - 1).toNat = j ∧ ds.getD j 0 = i.2

theorem getD_rep (N j : Nat) : (List.replicate N (0 : Int)).getD j 0 = 0 := by
  simp only [List.getD, List.getElem?_replicate]
  split <;> rfl

theorem is_none (N : Nat) : IsAt (fun _ _ => False) N 1 (List.replicate N 0) :=
  ⟨by simp, Int.le_refl _, fun j => by rw [getD_rep]; exact Int.le_refl _, fun _ _ h => h.elim, .inl rfl, fun j => .inl (getD_rep N j)⟩

theorem IsAt.congr {P P' : Int × Int → Int → Prop} {N : Nat} {s : Int} {ds : List Int} (h : IsAt P N s ds) (he : ∀ i q, P i q ↔ P' i q) : IsAt P' N s ds := by
  have : P = P' := by funext i q; exact propext (he i q)
  exact this ▸ h

theorem getD_set (l : List Int) (k j : Nat) (x : Int) (hk : k < l.length) : (l.set k x).getD j 0 = if j = k then x else l.getD j 0 := by
  simp only [List.getD, List.getElem?_set]
  by_cases h : k = j
  · subst h; simp [hk]
  · rw [if_neg h, if_neg (fun e => h e.symm)]

theorem IsAt.step {P : Int × Int → Int → Prop} {N : Nat} {s : Int} {ds : List Int} (h : IsAt P N s ds) (i : Int × Int) (q : Int) (h1 : 1 ≤ i.1) (h2 : i.1 ≤ (N : Int)) (h3 : 0 ≤ i.2) :
    IsAt (fun j r => P j r ∨ (j = i ∧ r = q)) N (max s (sn q)) (ds.set (i.1 - 1).toNat (max (ds.getD (i.1 - 1).toNat 0) i.2)) := by
  have hk : (i.1 - 1).toNat < ds.length := by rw [h.len]; omega
  have G := fun j x => getD_set ds (i.1 - 1).toNat j x hk
  refine ⟨by rw [List.length_set, h.len], by have := h.pos; omega, fun j => ?_, fun j r hp => ?_, ?_, fun j => ?_⟩
  · rw [G]; split
    · have := h.nn (i.1 - 1).toNat; omega
    · exact h.nn j
  · rw [G]
    rcases hp with hp | ⟨rfl, rfl⟩
    · obtain ⟨a, b⟩ := h.sup j r hp
      refine ⟨by omega, ?_⟩
      split
      · rename_i e; rw [e] at b; omega
      · exact b
    · rw [if_pos rfl]; exact ⟨by omega, by omega⟩
  · rcases Int.le_total (sn q) s with hl | hl
    · rw [Int.max_eq_left hl]
      rcases h.one with e | ⟨i', q', hp, e⟩
      · exact .inl e
      · exact .inr ⟨i', q', .inl hp, e⟩
    · rw [Int.max_eq_right hl]
      exact .inr ⟨i, q, .inr ⟨rfl, rfl⟩, rfl⟩
  · rw [G]
    split
    · rename_i e
      subst e
      rcases Int.le_total i.2 (ds.getD (i.1 - 1).toNat 0) with hl | hl
      · rw [Int.max_eq_left hl]
        rcases h.dep (i.1 - 1).toNat with e | ⟨i', q', hp, e1, e2⟩
        · exact .inl e
        · exact .inr ⟨i', q', .inl hp, e1, e2⟩
      · rw [Int.max_eq_right hl]
        exact .inr ⟨i, q, .inr ⟨rfl, rfl⟩, rfl, rfl⟩
    · rcases h.dep j with e | ⟨i', q', hp, e1, e2⟩
      · exact .inl e
      · exact .inr ⟨i', q', .inl hp, e1, e2⟩

theorem IsAt.mono {P P' : Int × Int → Int → Prop} {N N' : Nat} {s s' : Int} {ds ds' : List Int} (h : IsAt P N s ds) (h' : IsAt P' N' s' ds') (hp : ∀ i q, P i q → P' i q) : s ≤ s' ∧ ∀ j, ds.getD j 0 ≤ ds'.getD j 0 := by
  constructor
  · rcases h.one with e | ⟨i, q, hP, e⟩
    · rw [e]; exact h'.pos
    · rw [e]; exact (h'.sup i q (hp i q hP)).1
  · intro j
    rcases h.dep j with e | ⟨i, q, hP, e1, e2⟩
    · rw [e]; exact h'.nn j
    · rw [e2, ← e1]; exact (h'.sup i q (hp i q hP)).2

theorem IsAt.uniq {P P' : Int × Int → Int → Prop} {N : Nat} {s s' : Int} {ds ds' : List Int} (h : IsAt P N s ds) (h' : IsAt P' N s' ds') (hp : ∀ i q, P i q ↔ P' i q) : s = s' ∧ ds = ds' := by
  obtain ⟨a1, a2⟩ := h.mono h' (fun i q x => (hp i q).1 x)
  obtain ⟨b1, b2⟩ := h'.mono h (fun i q x => (hp i q).2 x)
  exact ⟨by omega, At.ints_ext (by rw [h.len, h'.len]) (fun j _ => by have := a2 j; have := b2 j; omega)⟩

/-- What is known of an instance. -/
structure Kn where
  i : Int × Int
  c : Cd
  q : Int

/-- n counts as 1, if it is below 1, as 7, if it is above that. -/
def am (n : Int) : Int := min (max n 1) 7
theorem am_lo (n : Int) : 1 ≤ am n := by unfold am; omega
theorem am_hi (n : Int) : am n ≤ 7 := by unfold am; omega
theorem am_in {n : Int} (h1 : 1 ≤ n) (h2 : n ≤ 7) : am n = n := by unfold am; omega
/-- May an instance be known? -/
def mb (i : Int × Int) (N : Int) : Bool := decide (1 ≤ i.1) && (decide (i.1 ≤ N) && (decide (1 ≤ i.2) && decide (i.2 ≤ 1048576)))
theorem mb_iff {i : Int × Int} {N : Int} : mb i N = true ↔ 1 ≤ i.1 ∧ i.1 ≤ N ∧ 1 ≤ i.2 ∧ i.2 ≤ 1048576 := by
  simp only [mb, Bool.and_eq_true, decide_eq_true_eq]

/-- Those of l that interfere with c. -/
def Pq (N : Int) (l : List Kn) (c : Cd) (self : Int × Int) (i : Int × Int) (q : Int) : Prop := ∃ k ∈ l, mb k.i N = true ∧ k.i ≠ self ∧ itf k.c c = true ∧ k.i = i ∧ k.q = q

/-- Put, of a list in which each instance is once. -/
def pt (N : Int) (l : List Kn) (k : Kn) : List Kn := if mb k.i N = true then l.filter (fun x => decide (x.i ≠ k.i)) ++ [k] else l
theorem pt_no {N : Int} {l : List Kn} {k : Kn} (h : mb k.i N = false) : pt N l k = l := by unfold pt; rw [h]; rfl
theorem pt_yes {N : Int} {l : List Kn} {k : Kn} (h : mb k.i N = true) : pt N l k = l.filter (fun x => decide (x.i ≠ k.i)) ++ [k] := if_pos h

/-- Each instance once, all of which may be known. -/
structure Wf (N : Int) (l : List Kn) : Prop where
  once : l.Pairwise (fun x y => x.i ≠ y.i)
  may : ∀ k ∈ l, mb k.i N = true
  low : ∀ k ∈ l, -9223372036854775808 ≤ k.q
theorem wf_nil (N : Int) : Wf N [] := ⟨List.Pairwise.nil, by simp, by simp⟩
theorem Wf.pt {N : Int} {l : List Kn} (h : Wf N l) {k : Kn} (hq : -9223372036854775808 ≤ k.q) : Wf N (pt N l k) := by
  rcases hb : mb k.i N with _ | _
  · rw [pt_no hb]; exact h
  · rw [pt_yes hb]
    refine ⟨List.pairwise_append.2 ⟨h.once.filter _, by simp, fun x hx y hy => ?_⟩, fun x hx => ?_, fun x hx => ?_⟩
    · simp at hy; subst hy; simp at hx; exact hx.2
    · rcases List.mem_append.1 hx with hx | hx
      · exact h.may x (List.mem_filter.1 hx).1
      · simp at hx; subst hx; exact hb
    · rcases List.mem_append.1 hx with hx | hx
      · exact h.low x (List.mem_filter.1 hx).1
      · simp at hx; subst hx; exact hq

theorem mt_comm (x y : Ky) : mt x y = mt y x := by
  unfold mt
  rw [BEq.comm (a := x.a), BEq.comm (a := x.i), Bool.or_comm]
theorem itf_comm (x y : Cd) : itf x y = itf y x := by
  unfold itf sm mts
  rw [Bool.eq_iff_iff]
  simp only [List.any_eq_true]
  constructor
  · rintro ⟨a, ha, b, hb, h⟩; exact ⟨b, hb, a, ha, by rw [mt_comm]; exact h⟩
  · rintro ⟨a, ha, b, hb, h⟩; exact ⟨b, hb, a, ha, by rw [mt_comm]; exact h⟩
theorem itf_iff {x y : Cd} : itf x y = true ↔ ∃ a ∈ kl x, mts (kl y) a = true := List.any_eq_true

/-- By whom the keys are touched. -/
def Gq (l : List Kn) (g : Ky → Int × Int → Option Int) : Prop := ∀ a i q, g a i = some q ↔ ∃ k ∈ l, k.i = i ∧ a ∈ kl k.c ∧ k.q = q

theorem kl_sep {x : Cd} {p q : Nat} {a : Ky} (h1 : (kl x)[p]? = some a) (h2 : (kl x)[q]? = some a) : p = q := by
  rcases h : x.on with _ | _
  · rw [kl_no h] at h1; simp at h1
  · rw [kl_yes h] at h1 h2
    match p, q, h1, h2 with
    | 0, 0, _, _ => rfl
    | 1, 1, _, _ => rfl
    | 0, 1, h1, h2 => simp at h1 h2; rw [← h1] at h2; simp at h2
    | 1, 0, h1, h2 => simp at h1 h2; rw [← h2] at h1; simp at h1
    | p + 2, _, h1, _ => simp at h1
    | _, q + 2, _, h2 => simp at h2

/-- The keys of a command are of numbers that an int holds. -/
theorem kl_fits {x : Cd} {a : Ky} (h : a ∈ kl x) : 1 ≤ a.i ∧ a.i ≤ 1048576 := by
  rcases ho : x.on with _ | _
  · rw [kl_no ho] at h; simp at h
  · rw [kl_yes ho] at h
    have hm : x.may = true := by simp [Cd.on] at ho; exact ho.2
    have hk : x.k ≠ 0 := by simp [Cd.on] at ho; exact ho.1
    simp only [Cd.may, mayB] at hm
    rw [if_neg hk] at hm
    simp only [Bool.and_eq_true, decide_eq_true_eq, fitB, if_true] at hm
    obtain ⟨_, hu, _, hh, _⟩ := hm
    simp only [List.mem_cons, List.not_mem_nil, or_false] at h
    rcases h with rfl | rfl
    · exact hu
    · exact hh

end Go.Proofs.YtmeklhlojogdnaaDoor
