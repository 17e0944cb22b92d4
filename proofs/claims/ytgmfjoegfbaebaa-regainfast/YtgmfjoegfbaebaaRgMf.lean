/-
  Plain facts for RegainFast: where all have pre-accepted the same, so have those of them that are told. No program's function is walked here. No conditions.
-/
import Derived.Test.YtgmfjoegfbaebaaRgMt
namespace Go.Proofs.Ytgmfjoegfbaebaa.Rg
open Go.RowKit In
set_option linter.unusedVariables false

def pt : List Rp → List Bool → List Rp
  | x :: l, b :: bs => if b = true then x :: pt l bs else pt l bs
  | _, _ => []
theorem pt_snoc : ∀ (l : List Rp) (bs : List Bool) (x : Rp) (b : Bool), l.length = bs.length → pt (l ++ [x]) (bs ++ [b]) = pt l bs ++ (if b = true then [x] else [])
  | [], [], x, b, _ => by
    show (if b = true then x :: pt [] [] else pt [] []) = [] ++ _
    rcases b with _ | _ <;> rfl
  | [], _ :: _, x, b, h => by simp at h
  | _ :: _, [], x, b, h => by simp at h
  | y :: l, c :: bs, x, b, h => by
    have ih := pt_snoc l bs x b (by simpa using h)
    show (if c = true then y :: pt (l ++ [x]) (bs ++ [b]) else pt (l ++ [x]) (bs ++ [b])) = (if c = true then y :: pt l bs else pt l bs) ++ _
    rw [ih]
    rcases c with _ | _ <;> rfl
theorem pt_sub : ∀ (l : List Rp) (bs : List Bool), (pt l bs).Sublist l
  | [], _ => by unfold pt; exact List.Sublist.refl _
  | x :: l, [] => by unfold pt; exact List.nil_sublist _
  | x :: l, b :: bs => by
    show (if b = true then x :: pt l bs else pt l bs).Sublist (x :: l)
    rcases b with _ | _
    · exact (pt_sub l bs).cons x
    · exact (pt_sub l bs).cons_cons x
/-- Those of some whose place is told. -/
def pk (l : List Rp) (bs : List Bool) (i : Nat) : List Rp := pt (l.take i) (bs.take i)
theorem pk_sub (l : List Rp) (bs : List Bool) (i : Nat) : (pk l bs i).Sublist l := (pt_sub _ _).trans (List.take_sublist _ _)
theorem pk_succ {l : List Rp} {bs : List Bool} {i : Nat} (h1 : i < l.length) (h2 : i < bs.length) : pk l bs (i + 1) = pk l bs i ++ (if bs[i] = true then [l[i]] else []) := by
  unfold pk
  rw [List.take_succ_eq_append_getElem h1, List.take_succ_eq_append_getElem h2]
  exact pt_snoc _ _ _ _ (by rw [List.length_take, List.length_take]; omega)

abbrev T : Rp → Bool := fun _ => true
theorem ct_full {L : List Rp} : ∀ {n : Nat}, (ct L n).length = n → ∀ i < n, ∃ x, fd L i = some x
  | 0, _, i, hi => absurd hi (Nat.not_lt_zero _)
  | n + 1, h, i, hi => by
    rw [ct_succ, List.length_append] at h
    have h1 := ct_len L n
    rcases hf : fd L n with _ | x
    · rw [hf] at h
      simp at h
      omega
    · rw [hf] at h
      simp at h
      rcases Nat.lt_or_ge i n with hlt | hge
      · exact ct_full h i hlt
      · obtain rfl : i = n := by omega
        exact ⟨x, hf⟩
theorem upto_ge {L : List Rp} {m : Nat} (hf : ∀ i < m, ∃ x, fd L i = some x) (a : Nat) : ∀ d, a + d ≤ m → (upto T a L).length + d ≤ (upto T (a + d) L).length
  | 0, _ => Nat.le_refl _
  | d + 1, h => by
    have ih := upto_ge hf a d (by omega)
    obtain ⟨x, hx⟩ := hf (a + d) (by omega)
    have h1 := here_pos (P := T) hx rfl
    rw [show a + (d + 1) = (a + d) + 1 from rfl, upto_succ]
    omega
theorem upto_len_le (m : Nat) (L : List Rp) : (upto T m L).length ≤ L.length := List.length_filter_le _ _
theorem here_le {L : List Rp} {m : Nat} (hf : ∀ i < m, ∃ x, fd L i = some x) (hL : L.length = m) {i : Nat} (hi : i < m) : (here T i L).length ≤ 1 := by
  have h1 := upto_ge hf 0 i (by omega)
  have h2 := upto_ge hf (i + 1) (m - (i + 1)) (by omega)
  have h3 := upto_succ T i L
  have h4 := upto_len_le (i + 1 + (m - (i + 1))) L
  rw [upto_zero] at h1
  simp at h1
  omega
theorem all_in {L : List Rp} {m : Nat} (hf : ∀ i < m, ∃ x, fd L i = some x) (hL : L.length = m) : ∀ x ∈ L, 1 ≤ x.f ∧ x.f ≤ (m : Int) := by
  have h1 := upto_ge hf 0 m (by omega)
  rw [upto_zero] at h1
  simp at h1
  have h2 := upto_len_le m L
  have h3 : (upto T m L).length = L.length := by omega
  unfold upto at h3
  rw [List.length_filter_eq_length_iff] at h3
  intro x hx
  have := h3 x hx
  simpa using this
theorem here_sub {p L : List Rp} (h : p.Sublist L) (i : Nat) : (here T i p).length ≤ (here T i L).length := (h.filter _).length_le
theorem ct_part {p L : List Rp} {m : Nat} (hp : p.Sublist L) (hf : ∀ i < m, ∃ x, fd L i = some x) (hL : L.length = m) : ∀ n, n ≤ m → (ct p n).length = (upto T n p).length
  | 0, _ => by rw [upto_zero]; rfl
  | n + 1, h => by
    have ih := ct_part hp hf hL n (by omega)
    have h1 := here_sub hp n
    have h2 := here_le hf hL (i := n) (by omega)
    rw [ct_succ, List.length_append, upto_succ, ih]
    congr 1
    rcases hx : fd p n with _ | x
    · have : here T n p = [] := by
        unfold here
        rw [List.filter_eq_nil_iff]
        intro y hy
        have := List.find?_eq_none.1 hx y hy
        simpa using this
      rw [this]
      rfl
    · have := here_pos (P := T) hx rfl
      simp
      omega
theorem part_len {p L : List Rp} {m : Nat} (hp : p.Sublist L) (hf : ∀ i < m, ∃ x, fd L i = some x) (hL : L.length = m) : (ct p m).length = p.length := by
  rw [ct_part hp hf hL m (Nat.le_refl _)]
  unfold upto
  rw [List.length_filter_eq_length_iff]
  intro x hx
  have := all_in hf hL x (hp.subset hx)
  simp [this.1, this.2]
theorem in_ct {L : List Rp} {m : Nat} (hf : ∀ i < m, ∃ x, fd L i = some x) (hL : L.length = m) {x : Rp} (hx : x ∈ L) : x ∈ ct L m := by
  obtain ⟨h1, h2⟩ := all_in hf hL x hx
  obtain ⟨i, hi⟩ : ∃ i : Nat, x.f = (i : Int) + 1 := ⟨(x.f - 1).toNat, by omega⟩
  have him : i < m := by omega
  obtain ⟨y, hy⟩ := hf i him
  have hl := here_le hf hL him
  have hxm : x ∈ here T i L := List.mem_filter.2 ⟨hx, by simp [hi]⟩
  have hym : y ∈ here T i L := List.mem_filter.2 ⟨fd_mem hy, by simp [fd_f hy]⟩
  have hxy : x = y := by
    rcases hh : here T i L with _ | ⟨z, t⟩
    · rw [hh] at hxm; cases hxm
    · rw [hh] at hl hxm hym
      have ht : t = [] := by
        rcases t with _ | ⟨u, t⟩
        · rfl
        · simp at hl
      subst ht
      rw [List.mem_singleton.1 hxm, List.mem_singleton.1 hym]
  rw [hxy]
  exact List.mem_filterMap.2 ⟨i, List.mem_range.2 him, hy⟩

theorem sc_iff {a b : Rd} : sc a b = true ↔ a.u = b.u ∧ a.s = b.s ∧ a.k = b.k ∧ a.h = b.h ∧ a.n = b.n ∧ a.t = b.t := by
  unfold sc
  simp
  constructor
  · rintro ⟨⟨⟨⟨⟨h1, h2⟩, h3⟩, h4⟩, h5⟩, h6⟩
    exact ⟨h1, h2, h3, h4, h5, h6⟩
  · rintro ⟨h1, h2, h3, h4, h5, h6⟩
    exact ⟨⟨⟨⟨⟨h1, h2⟩, h3⟩, h4⟩, h5⟩, h6⟩
theorem sm_iff {a b : Rd} : sm a b = true ↔ (a.u = b.u ∧ a.s = b.s ∧ a.k = b.k ∧ a.h = b.h ∧ a.n = b.n ∧ a.t = b.t) ∧ a.q = b.q ∧ ∀ i, a.xs.getD i 0 = b.xs.getD i 0 := by
  unfold sm
  rw [Bool.and_eq_true, sc_iff, At.sa_iff]
theorem sm_two {a b h : Rd} (h1 : sm a h = true) (h2 : sm b h = true) : sm a b = true := by
  rw [sm_iff] at *
  obtain ⟨⟨a1, a2, a3, a4, a5, a6⟩, a7, a8⟩ := h1
  obtain ⟨⟨b1, b2, b3, b4, b5, b6⟩, b7, b8⟩ := h2
  exact ⟨⟨a1.trans b1.symm, a2.trans b2.symm, a3.trans b3.symm, a4.trans b4.symm, a5.trans b5.symm, a6.trans b6.symm⟩, a7.trans b7.symm, fun i => (a8 i).trans (b8 i).symm⟩
theorem ag_all {o : Int} {l : List Rp} (h : (ag o l).isSome = true) : (∀ x ∈ l, fi o x.r = true) ∧ ∀ x ∈ l, ∀ y ∈ l, sm x.r y.r = true := by
  rcases l with _ | ⟨z, t⟩
  · exact ⟨fun x hx => (by cases hx), fun x hx => (by cases hx)⟩
  · rw [ag_cons] at h
    by_cases hc : fi o z.r = true ∧ ∀ y ∈ t, fi o y.r = true ∧ sm y.r z.r = true
    · have hz : ∀ x ∈ z :: t, fi o x.r = true ∧ sm x.r z.r = true := fun x hx => by
        rcases List.mem_cons.1 hx with rfl | hx
        · exact ⟨hc.1, sm_self _⟩
        · exact hc.2 x hx
      exact ⟨fun x hx => (hz x hx).1, fun x hx y hy => sm_two (hz x hx).2 (hz y hy).2⟩
    · rw [if_neg hc] at h
      cases h
theorem ag_of {o : Int} {l : List Rp} (h1 : ∀ x ∈ l, fi o x.r = true) (h2 : ∀ x ∈ l, ∀ y ∈ l, sm x.r y.r = true) (h0 : l ≠ []) : ∃ x ∈ l, ag o l = some x := by
  rcases l with _ | ⟨z, t⟩
  · exact absurd rfl h0
  · refine ⟨z, List.mem_cons_self, ?_⟩
    rw [ag_cons]
    exact if_pos ⟨h1 z List.mem_cons_self, fun y hy => ⟨h1 y (List.mem_cons_of_mem _ hy), h2 y (List.mem_cons_of_mem _ hy) z List.mem_cons_self⟩⟩

/-- Where all pre-accepted the same at the first ballot, whatever a quorum tells is taken as that. -/
theorem fast_takes {o : Int} {m : Nat} {L p : List Rp} (hp : p.Sublist L) (hF : fs o m (ct L m) = true) (hL : L.length = m) (h0 : 0 < L.length) :
    (p.length < m / 2 + 1 → (dc o m (ct p m)).k = 0) ∧
    (¬ p.length < m / 2 + 1 → (dc o m (ct p m)).k = 2 ∧ ((dc o m (ct p m)).u = L[0].r.u ∧ (dc o m (ct p m)).s = L[0].r.s ∧ (dc o m (ct p m)).d = L[0].r.k ∧ (dc o m (ct p m)).h = L[0].r.h ∧ (dc o m (ct p m)).n = L[0].r.n ∧ (dc o m (ct p m)).t = L[0].r.t) ∧ At.sa (dc o m (ct p m)).q (dc o m (ct p m)).xs L[0].r.q L[0].r.xs = true) := by
  unfold fs at hF
  rw [Bool.and_eq_true, decide_eq_true_eq] at hF
  obtain ⟨ha, hlen⟩ := hF
  have hf := ct_full hlen
  obtain ⟨a1, a2⟩ := ag_all ha
  have hpl := part_len hp hf hL
  have hm1 : ∀ x ∈ ct p m, x ∈ ct L m := fun x hx => in_ct hf hL (hp.subset (ct_mem hx))
  have b1 : ∀ x ∈ ct p m, fi o x.r = true := fun x hx => a1 x (hm1 x hx)
  have b2 : ∀ x ∈ ct p m, ∀ y ∈ ct p m, sm x.r y.r = true := fun x hx y hy => a2 x (hm1 x hx) y (hm1 y hy)
  have hd : dn (ct p m) = none := by
    unfold dn
    rw [List.find?_eq_none]
    intro x hx
    have := fi_st (b1 x hx)
    simp [this]
  refine ⟨fun hq => by rw [dc_wait hd (by omega)]; rfl, fun hq => ?_⟩
  have hq2 : ¬ (ct p m).length < m / 2 + 1 := by omega
  have ht : tk (ct p m) = none := by
    rcases hg : tk (ct p m) with _ | x
    · rfl
    · obtain ⟨e1, e2⟩ := tk_st hg
      have := fi_st (b1 x e2)
      omega
  obtain ⟨x, hx, hax⟩ := ag_of b1 b2 (fun e => by rw [e] at hq2; simp at hq2)
  have hs := a2 x (hm1 x hx) L[0] (in_ct hf hL (List.getElem_mem h0))
  rw [dc_first hd hq2 ht hax]
  unfold sm at hs
  rw [Bool.and_eq_true, sc_iff] at hs
  obtain ⟨⟨c1, c2, c3, c4, c5, c6⟩, c7⟩ := hs
  exact ⟨rfl, ⟨c1, c2, c3, c4, c5, c6⟩, c7⟩

end Go.Proofs.Ytgmfjoegfbaebaa.Rg
