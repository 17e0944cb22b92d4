/-
  Plain mathematics of package command's Get, with nothing of the program in it: the command that bytes are ('cg'), and how it belongs to the bytes of a command ('cbs'). No conditions.
-/
import Derived.Test.YteajbcngimccmaaDoorPut4
namespace Go.Proofs.YteajbcngimccmaaDoor

/-- The number that bytes begin with, what is left, the error. -/
def gx (l : List Int) : Int × List Int × Int := if (gt 0 0 l).2.2 = 0 then ((gt 0 0 l).1, l.drop (gt 0 0 l).2.1, 0) else (0, l, (gt 0 0 l).2.2)

/-- What Get answers: a command, its text as bytes, and the error. -/
structure G where
  (u s k h n : Int)
  t : List Int
  e : Int

def noG (e : Int) : G := ⟨0, 0, 0, 0, 0, [], e⟩

def bd (l : List Int) (K : Int → List Int → G) : G := if (gx l).2.2 ≠ 0 then noG (gx l).2.2 else K (gx l).1 (gx l).2.1
def stN (k : Int) (K : Int → List Int → G) (l : List Int) : G := if ndN k then bd l K else K 0 l
def stT (k : Int) (K : List Int → List Int → G) (l : List Int) : G := if ndT k then bd l (fun m l' => if (l'.length : Int) < m then noG 3 else K (l'.take m.toNat) (l'.drop m.toNat)) else K [] l
def fin (u s k h n : Int) (t l : List Int) : G := if l ≠ [] ∨ mayB u s k h n t.length = false then noG 2 else ⟨u, s, k, h, n, t, 0⟩

def cg (xs : List Int) : G := bd xs fun k l => if 8 ≤ k then noG 2 else if k = 0 then fin 0 0 0 0 0 [] l else bd l fun u l => bd l fun s l => bd l fun h l => stN k (fun n l => stT k (fun t l => fin u s k h n t l) l) l

theorem gx_put (n : Int) (l : List Int) (h0 : 0 ≤ n) (h : n < 72057594037927936) : gx (vb n 0 ++ l) = (n, l, 0) := by
  rw [gx, gt_back n l h0 h, if_pos rfl]
  simp
theorem bd_put (n : Int) (l : List Int) (K : Int → List Int → G) (h0 : 0 ≤ n) (h : n < 72057594037927936) : bd (vb n 0 ++ l) K = K n l := by
  rw [bd, gx_put n l h0 h, if_neg (by simp)]

theorem gx_lt (n : Int) (l : List Int) (c : Nat) (h0 : 0 ≤ n) (h : n < 72057594037927936) (hc : c < (vb n 0).length) : (gx ((vb n 0 ++ l).take c)).2.2 = 3 := by
  have e : (vb n 0 ++ l).take c = (vb n 0).take c := List.take_append_of_le_length (by omega)
  rw [e, gx, gt_short n 0 c h0 h hc, if_neg (by simp)]
theorem bd_lt (n : Int) (l : List Int) (K : Int → List Int → G) (c : Nat) (h0 : 0 ≤ n) (h : n < 72057594037927936) (hc : c < (vb n 0).length) : bd ((vb n 0 ++ l).take c) K = noG 3 := by
  rw [bd, gx_lt n l c h0 h hc, if_pos (by decide)]
theorem bd_ge (n : Int) (l : List Int) (K : Int → List Int → G) (c : Nat) (h0 : 0 ≤ n) (h : n < 72057594037927936) (hc : ¬ c < (vb n 0).length) : bd ((vb n 0 ++ l).take c) K = K n (l.take (c - (vb n 0).length)) := by
  have e : (vb n 0 ++ l).take c = vb n 0 ++ l.take (c - (vb n 0).length) := by rw [List.take_append, List.take_of_length_le (by omega)]
  rw [e, bd_put n _ K h0 h]

theorem gx_once {l : List Int} (hb : ∀ x ∈ l, 0 ≤ x ∧ x ≤ 255) (h : (gx l).2.2 = 0) : l = vb (gx l).1 0 ++ (gx l).2.1 ∧ 0 ≤ (gx l).1 ∧ (gx l).1 < 72057594037927936 := by
  by_cases he : (gt 0 0 l).2.2 = 0
  · have e : gt 0 0 l = ((gt 0 0 l).1, (gt 0 0 l).2.1, 0) := Prod.ext rfl (Prod.ext rfl he)
    obtain ⟨_, _, q0, q1, q2⟩ := gt_once hb e
    rw [gx, if_pos he]
    exact ⟨by rw [q2, List.take_append_drop], q0, q1⟩
  · rw [gx, if_neg he] at h
    exact absurd h he
theorem gx_bytes {l : List Int} (hb : ∀ x ∈ l, 0 ≤ x ∧ x ≤ 255) : ∀ x ∈ (gx l).2.1, 0 ≤ x ∧ x ≤ 255 := by
  intro x hx
  rw [gx] at hx
  split at hx
  · exact hb x (List.mem_of_mem_drop hx)
  · exact hb x hx

theorem bd_once {l : List Int} {K : Int → List Int → G} (hb : ∀ x ∈ l, 0 ≤ x ∧ x ≤ 255) (h : (bd l K).e = 0) :
    ∃ n l', l = vb n 0 ++ l' ∧ (0 ≤ n ∧ n < 72057594037927936) ∧ bd l K = K n l' ∧ ∀ x ∈ l', 0 ≤ x ∧ x ≤ 255 := by
  by_cases he : (gx l).2.2 = 0
  · obtain ⟨q0, q1, q2⟩ := gx_once hb he
    exact ⟨_, _, q0, ⟨q1, q2⟩, by rw [bd, if_neg (by simp [he])], gx_bytes hb⟩
  · rw [bd, if_pos he] at h
    exact absurd h he

theorem fin_ok {u s k h n : Int} {t : List Int} (hm : mayB u s k h n t.length = true) : fin u s k h n t [] = ⟨u, s, k, h, n, t, 0⟩ := by
  rw [fin, if_neg]
  rintro (h | h)
  · exact h rfl
  · rw [hm] at h; cases h
theorem fin_more {u s k h n : Int} {t l : List Int} (hl : l ≠ []) : fin u s k h n t l = noG 2 := by rw [fin, if_pos (.inl hl)]
theorem fin_once {u s k h n : Int} {t l : List Int} (h0 : (fin u s k h n t l).e = 0) : l = [] ∧ mayB u s k h n t.length = true ∧ fin u s k h n t l = ⟨u, s, k, h, n, t, 0⟩ := by
  by_cases h1 : l ≠ [] ∨ mayB u s k h n t.length = false
  · rw [fin, if_pos h1] at h0; cases h0
  · have hl : l = [] := Classical.byContradiction fun hc => h1 (.inl hc)
    have hm : mayB u s k h n t.length = true := by
      cases hq : mayB u s k h n t.length
      · exact absurd (.inr hq) h1
      · rfl
    subst hl
    exact ⟨rfl, hm, fin_ok hm⟩

/-- The bytes of a command with its text as bytes. -/
def cbl (u s k h n : Int) (t : List Int) : List Int := pb (nl u s k h n t.length) ++ t

theorem nl_shape {u s k h n : Int} {m : Nat} (hm : mayB u s k h n m = true) (hk : k ≠ 0) : pb (nl u s k h n m) = vb k 0 ++ (vb u 0 ++ (vb s 0 ++ (vb h 0 ++ ((if ndN k then vb n 0 else []) ++ (if ndT k then vb (m : Int) 0 else []))))) := by
  rcases may_cases hm with ⟨h0, _⟩ | ⟨h1, h2, h3, h4, h5, h6⟩
  · exact absurd h0 hk
  · rw [nl, if_neg hk]
    have e1 : (if n = 0 then ([] : List Int) else [n]) = if ndN k then [n] else [] := by
      rcases h5 with ⟨q, _, _⟩ | ⟨q, _⟩
      · rw [q, if_neg (by omega)]; rfl
      · rw [q, if_pos (by assumption)]; rfl
    have e2 : (if m = 0 then ([] : List Int) else [(m : Int)]) = if ndT k then [(m : Int)] else [] := by
      rcases h6 with ⟨q, _, _⟩ | ⟨q, _⟩
      · rw [q, if_neg (by omega)]; rfl
      · rw [q, if_pos (by assumption)]; rfl
    rw [e1, e2]
    cases ndN k <;> cases ndT k <;> simp [pb]

/-- The steps behind a kind that is one. -/
def stK (k : Int) (l : List Int) : G := bd l fun u l => bd l fun s l => bd l fun h l => stN k (fun n l => stT k (fun t l => fin u s k h n t l) l) l
theorem cg_eq (xs : List Int) : cg xs = bd xs fun k l => if 8 ≤ k then noG 2 else if k = 0 then fin 0 0 0 0 0 [] l else stK k l := rfl

theorem cg_put {u s k h n : Int} {t : List Int} (r : List Int) (hm : mayB u s k h n t.length = true) : cg (cbl u s k h n t ++ r) = fin u s k h n t r := by
  rw [cg_eq, cbl]
  by_cases hk : k = 0
  · subst hk
    rcases may_cases hm with ⟨_, rfl, rfl, rfl, rfl, h0⟩ | ⟨h1, _⟩
    · have : t = [] := List.length_eq_zero_iff.1 h0
      subst this
      rw [nl_nop]
      have e : pb [0] ++ [] ++ r = vb 0 0 ++ r := by simp [pb]
      rw [e, bd_put 0 r _ (by decide) (by decide), if_neg (by decide), if_pos rfl]
    · omega
  · rw [nl_shape hm hk]
    rcases may_cases hm with ⟨h0, _⟩ | ⟨h1, h2, h3, h4, h5, h6⟩
    · exact absurd h0 hk
    · simp only [List.append_assoc]
      rw [bd_put k _ _ (by omega) (by omega), if_neg (by omega), if_neg hk, stK]
      rw [bd_put u _ _ (by omega) (by omega), bd_put s _ _ (by omega) (by omega), bd_put h _ _ (by omega) (by omega)]
      have eT : ∀ K : List Int → List Int → G, stT k K ((if ndT k then vb (t.length : Int) 0 else []) ++ (t ++ r)) = K t r := fun K => by
        unfold stT
        rcases h6 with ⟨q, q1, q2⟩ | ⟨q, q1⟩
        · rw [q, if_pos rfl, if_pos rfl, bd_put (t.length : Int) _ _ (by omega) (by omega), if_neg (by rw [List.length_append]; omega)]
          simp
        · have : t = [] := List.length_eq_zero_iff.1 q1
          subst this
          rw [q]; simp
      unfold stN
      rcases h5 with ⟨q, q1, q2⟩ | ⟨q, rfl⟩
      · rw [q, if_pos rfl, if_pos rfl, bd_put n _ _ (by omega) (by omega), eT]
      · rw [q]
        simp only [Bool.false_eq_true, if_false, List.nil_append]
        rw [eT]

theorem cg_back {u s k h n : Int} {t : List Int} (hm : mayB u s k h n t.length = true) : cg (cbl u s k h n t) = ⟨u, s, k, h, n, t, 0⟩ := by
  have := cg_put [] hm
  rw [List.append_nil, fin_ok hm] at this
  exact this

theorem stT_once {k : Int} {K : List Int → List Int → G} {l : List Int} (hb : ∀ x ∈ l, 0 ≤ x ∧ x ≤ 255) (h : (stT k K l).e = 0) :
    ∃ t l', l = (if ndT k then vb (t.length : Int) 0 else []) ++ (t ++ l') ∧ (ndT k = false → t = []) ∧ stT k K l = K t l' ∧ ∀ x ∈ l', 0 ≤ x ∧ x ≤ 255 := by
  unfold stT at h ⊢
  cases q : ndT k
  · exact ⟨[], l, by simp, fun _ => rfl, by simp, hb⟩
  · rw [q, if_pos rfl] at h
    obtain ⟨m, l', e, ⟨m0, m1⟩, ek, hb'⟩ := bd_once hb h
    rw [ek] at h
    by_cases hs : (l'.length : Int) < m
    · rw [if_pos hs] at h; cases h
    · rw [if_neg hs] at h ek
      refine ⟨l'.take m.toNat, l'.drop m.toNat, ?_, fun h => (by cases h), by rw [if_pos rfl, ek], fun x hx => hb' x (List.mem_of_mem_drop hx)⟩
      have : ((l'.take m.toNat).length : Int) = m := by rw [List.length_take]; omega
      rw [if_pos rfl, this, List.take_append_drop, e]
theorem stN_once {k : Int} {K : Int → List Int → G} {l : List Int} (hb : ∀ x ∈ l, 0 ≤ x ∧ x ≤ 255) (h : (stN k K l).e = 0) :
    ∃ n l', l = (if ndN k then vb n 0 else []) ++ l' ∧ (ndN k = false → n = 0) ∧ stN k K l = K n l' ∧ ∀ x ∈ l', 0 ≤ x ∧ x ≤ 255 := by
  unfold stN at h ⊢
  cases q : ndN k
  · exact ⟨0, l, by simp, fun _ => rfl, by simp, hb⟩
  · rw [q, if_pos rfl] at h
    obtain ⟨n, l', e, _, ek, hb'⟩ := bd_once hb h
    exact ⟨n, l', by rw [if_pos rfl]; exact e, fun h => (by cases h), by rw [if_pos rfl]; exact ek, hb'⟩

theorem cg_once {xs : List Int} (hb : ∀ x ∈ xs, 0 ≤ x ∧ x ≤ 255) (h : (cg xs).e = 0) :
    mayB (cg xs).u (cg xs).s (cg xs).k (cg xs).h (cg xs).n (cg xs).t.length = true ∧ cbl (cg xs).u (cg xs).s (cg xs).k (cg xs).h (cg xs).n (cg xs).t = xs := by
  rw [cg_eq] at h
  obtain ⟨k, l1, e1, ⟨k0, _⟩, ek, hb1⟩ := bd_once hb h
  rw [ek] at h
  have E : cg xs = if 8 ≤ k then noG 2 else if k = 0 then fin 0 0 0 0 0 [] l1 else stK k l1 := by rw [cg_eq]; exact ek
  by_cases h8 : 8 ≤ k
  · rw [if_pos h8] at h; cases h
  rw [if_neg h8] at h E
  by_cases hk : k = 0
  · rw [if_pos hk] at h E
    obtain ⟨rfl, hm, ef⟩ := fin_once h
    rw [E, ef]
    refine ⟨hm, ?_⟩
    show cbl 0 0 0 0 0 [] = xs
    rw [cbl, nl_nop, e1, hk]
    simp [pb]
  · rw [if_neg hk] at h E
    unfold stK at h E
    obtain ⟨u, l2, e2, _, ek2, hb2⟩ := bd_once hb1 h
    rw [ek2] at h E
    obtain ⟨s, l3, e3, _, ek3, hb3⟩ := bd_once hb2 h
    rw [ek3] at h E
    obtain ⟨h', l4, e4, _, ek4, hb4⟩ := bd_once hb3 h
    rw [ek4] at h E
    obtain ⟨n, l5, e5, _, ek5, hb5⟩ := stN_once hb4 h
    rw [ek5] at h E
    obtain ⟨t, l6, e6, _, ek6, hb6⟩ := stT_once hb5 h
    rw [ek6] at h E
    obtain ⟨rfl, hm, ef⟩ := fin_once h
    rw [E, ef]
    refine ⟨hm, ?_⟩
    show cbl u s k h' n t = xs
    rw [cbl, nl_shape hm hk, e1, e2, e3, e4, e5, e6]
    simp only [List.append_assoc, List.append_nil]

theorem cg_no {xs : List Int} (h : (cg xs).e ≠ 0) : cg xs = noG (cg xs).e := by
  have bdn : ∀ (l : List Int) (K : Int → List Int → G), (∀ n l', (K n l').e ≠ 0 → K n l' = noG (K n l').e) → (bd l K).e ≠ 0 → bd l K = noG (bd l K).e := by
    intro l K hK hl
    unfold bd at hl ⊢
    split
    · rfl
    · rename_i hh
      rw [if_neg hh] at hl
      exact hK _ _ hl
  have finn : ∀ (u s k h n : Int) (t l : List Int), (fin u s k h n t l).e ≠ 0 → fin u s k h n t l = noG (fin u s k h n t l).e := by
    intro u s k h n t l hl
    unfold fin at hl ⊢
    split
    · rfl
    · rename_i hh
      rw [if_neg hh] at hl
      exact absurd rfl hl
  have stTn : ∀ (k : Int) (K : List Int → List Int → G) (l : List Int), (∀ t l', (K t l').e ≠ 0 → K t l' = noG (K t l').e) → (stT k K l).e ≠ 0 → stT k K l = noG (stT k K l).e := by
    intro k K l hK hl
    unfold stT at hl ⊢
    split
    · rename_i hh
      rw [if_pos hh] at hl
      refine bdn _ _ (fun n l' hh' => ?_) hl
      by_cases hc : (l'.length : Int) < n
      · simp only [if_pos hc]; rfl
      · simp only [if_neg hc] at hh' ⊢; exact hK _ _ hh'
    · rename_i hh
      rw [if_neg hh] at hl
      exact hK _ _ hl
  have stNn : ∀ (k : Int) (K : Int → List Int → G) (l : List Int), (∀ t l', (K t l').e ≠ 0 → K t l' = noG (K t l').e) → (stN k K l).e ≠ 0 → stN k K l = noG (stN k K l).e := by
    intro k K l hK hl
    unfold stN at hl ⊢
    split
    · rename_i hh
      rw [if_pos hh] at hl
      exact bdn _ _ hK hl
    · rename_i hh
      rw [if_neg hh] at hl
      exact hK _ _ hl
  rw [cg_eq] at h ⊢
  refine bdn _ _ (fun k l hk => ?_) h
  by_cases h8 : 8 ≤ k
  · simp only [if_pos h8]; rfl
  simp only [if_neg h8] at hk ⊢
  by_cases h0 : k = 0
  · simp only [if_pos h0] at hk ⊢; exact finn _ _ _ _ _ _ _ hk
  simp only [if_neg h0] at hk ⊢
  exact bdn _ _ (fun u l hu => bdn _ _ (fun s l hs => bdn _ _ (fun h l hh => stNn _ _ _ (fun n l hn => stTn _ _ _ (fun t l ht => finn _ _ _ _ _ _ _ ht) hn) hh) hs) hu) hk

/-- Bytes of a command without their last ones lack some. -/
theorem cg_cut {u s k h n : Int} {t : List Int} (c : Nat) (hm : mayB u s k h n t.length = true) (hc : c < (cbl u s k h n t).length) : cg ((cbl u s k h n t).take c) = noG 3 := by
  rw [cg_eq]
  rw [cbl] at hc ⊢
  by_cases hk : k = 0
  · subst hk
    rcases may_cases hm with ⟨_, rfl, rfl, rfl, rfl, h0⟩ | ⟨h1, _⟩
    · have : t = [] := List.length_eq_zero_iff.1 h0
      subst this
      rw [nl_nop] at hc ⊢
      have e : pb [0] ++ [] = vb 0 0 ++ [] := by simp [pb]
      rw [e] at hc ⊢
      exact bd_lt 0 [] _ c (by decide) (by decide) (by simpa using hc)
    · omega
  · rw [nl_shape hm hk] at hc ⊢
    rcases may_cases hm with ⟨h0, _⟩ | ⟨h1, h2, h3, h4, h5, h6⟩
    · exact absurd h0 hk
    · simp only [List.append_assoc] at hc ⊢
      simp only [List.length_append] at hc
      by_cases c1 : c < (vb k 0).length
      · exact bd_lt k _ _ c (by omega) (by omega) c1
      rw [bd_ge k _ _ c (by omega) (by omega) c1, if_neg (by omega), if_neg hk, stK]
      by_cases c2 : c - (vb k 0).length < (vb u 0).length
      · exact bd_lt u _ _ _ (by omega) (by omega) c2
      rw [bd_ge u _ _ _ (by omega) (by omega) c2]
      by_cases c3 : c - (vb k 0).length - (vb u 0).length < (vb s 0).length
      · exact bd_lt s _ _ _ (by omega) (by omega) c3
      rw [bd_ge s _ _ _ (by omega) (by omega) c3]
      by_cases c4 : c - (vb k 0).length - (vb u 0).length - (vb s 0).length < (vb h 0).length
      · exact bd_lt h _ _ _ (by omega) (by omega) c4
      rw [bd_ge h _ _ _ (by omega) (by omega) c4]
      have eT : ∀ (d : Nat) (K : List Int → List Int → G), d < (if ndT k then vb (t.length : Int) 0 else []).length + t.length → stT k K (((if ndT k then vb (t.length : Int) 0 else []) ++ t).take d) = noG 3 := fun d K hd => by
        unfold stT
        rcases h6 with ⟨q, q1, q2⟩ | ⟨q, q1⟩
        · rw [q] at hd ⊢
          simp only [if_true] at hd ⊢
          by_cases c6 : d < (vb (t.length : Int) 0).length
          · exact bd_lt _ _ _ _ (by omega) (by omega) c6
          · rw [bd_ge _ _ _ _ (by omega) (by omega) c6, if_pos (by rw [List.length_take]; omega)]
        · rw [q] at hd
          simp at hd
          omega
      unfold stN
      rcases h5 with ⟨q, q1, q2⟩ | ⟨q, rfl⟩
      · rw [q] at hc ⊢
        simp only [if_true] at hc ⊢
        by_cases c5 : c - (vb k 0).length - (vb u 0).length - (vb s 0).length - (vb h 0).length < (vb n 0).length
        · exact bd_lt n _ _ _ (by omega) (by omega) c5
        · rw [bd_ge n _ _ _ (by omega) (by omega) c5]
          exact eT _ _ (by omega)
      · rw [q] at hc ⊢
        simp only [Bool.false_eq_true, if_false, List.nil_append, List.length_nil] at hc ⊢
        exact eT _ _ (by omega)

theorem bt_str {t : List Int} (hb : ∀ x ∈ t, 0 ≤ x ∧ x ≤ 255) : bt (strOfNums t) = t := by
  show ((t.map fun n => UInt8.ofNat n.toNat).toArray.toList).map (fun b => (b.toNat : Int)) = t
  simp only [List.map_map]
  conv => rhs; rw [← List.map_id t]
  refine List.map_congr_left fun x hx => ?_
  obtain ⟨h0, h1⟩ := hb x hx
  show ((UInt8.ofNat x.toNat).toNat : Int) = x
  rw [UInt8.toNat_ofNat']
  omega
theorem str_bt (t : ByteArray) : strOfNums (bt t) = t := by
  obtain ⟨⟨l⟩⟩ := t
  show (⟨((l.map fun b : UInt8 => (b.toNat : Int)).map fun n => UInt8.ofNat n.toNat).toArray⟩ : ByteArray) = ⟨⟨l⟩⟩
  congr 2
  rw [List.map_map]
  conv => rhs; rw [← List.map_id l]
  refine List.map_congr_left fun x _ => ?_
  show UInt8.ofNat ((x.toNat : Int).toNat) = x
  simp
theorem cbs_eq (u s k h n : Int) (t : ByteArray) : cbs u s k h n t = cbl u s k h n (bt t) := by rw [cbs, cbl, bt_len]

theorem cbl_inj {u s k h n u' s' k' h' n' : Int} {t t' : List Int} (hm : mayB u s k h n t.length = true) (hm' : mayB u' s' k' h' n' t'.length = true) (e : cbl u s k h n t = cbl u' s' k' h' n' t') :
    u = u' ∧ s = s' ∧ k = k' ∧ h = h' ∧ n = n' ∧ t = t' := by
  have h1 := cg_back hm
  rw [e, cg_back hm'] at h1
  injection h1 with a b c d e f
  exact ⟨a.symm, b.symm, c.symm, d.symm, e.symm, f.symm⟩

theorem str_inj {a b : List Int} (ha : ∀ x ∈ a, 0 ≤ x ∧ x ≤ 255) (hb : ∀ x ∈ b, 0 ≤ x ∧ x ≤ 255) (h : strOfNums a = strOfNums b) : a = b := by
  rw [← bt_str ha, ← bt_str hb, h]
theorem cbs_byte (u s k h n : Int) (t : ByteArray) : ∀ x ∈ cbs u s k h n t, 0 ≤ x ∧ x ≤ 255 := by
  intro x hx
  rw [cbs, List.mem_append] at hx
  rcases hx with hx | hx
  · rw [pb, List.mem_flatMap] at hx
    obtain ⟨m, _, hm⟩ := hx
    exact vb_byte m 0 (by omega) (by omega) x hm
  · exact bt_byte t x hx

end Go.Proofs.YteajbcngimccmaaDoor
