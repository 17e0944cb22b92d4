/-
  The plain theory of texts as lists of bytes: which may be (UTF-8 in its shortest form, no control bytes), by the document's own steps; numbers in decimal digits; lines. No program's function is walked here. No conditions.
-/
namespace Go.Proofs.YtpeieagfndggbaaDoor.Tx

/-- Does a byte go on with a rune? Do the next k? -/
def isc (c : Nat) : Bool := decide (128 ≤ c) && decide (c ≤ 191)
def fo : Nat → List Nat → Bool
  | 0, _ => true
  | _ + 1, [] => false
  | k + 1, c :: t => isc c && fo k t
/-- How many bytes the rune has that a list begins with; 0: it is none. -/
def sz : List Nat → Nat
  | [] => 0
  | c :: t =>
    if c < 128 then 1
    else if 194 ≤ c ∧ c ≤ 223 ∧ fo 1 t = true then 2
    else if 224 ≤ c ∧ c ≤ 239 ∧ fo 2 t = true then (if c = 224 ∧ t.getD 0 0 < 160 ∨ c = 237 ∧ 159 < t.getD 0 0 then 0 else 3)
    else if 240 ≤ c ∧ c ≤ 244 ∧ fo 3 t = true then (if c = 240 ∧ t.getD 0 0 < 144 ∨ c = 244 ∧ 143 < t.getD 0 0 then 0 else 4)
    else 0
theorem sz_cons (c : Nat) (t : List Nat) : sz (c :: t) =
    if c < 128 then 1
    else if 194 ≤ c ∧ c ≤ 223 ∧ fo 1 t = true then 2
    else if 224 ≤ c ∧ c ≤ 239 ∧ fo 2 t = true then (if c = 224 ∧ t.getD 0 0 < 160 ∨ c = 237 ∧ 159 < t.getD 0 0 then 0 else 3)
    else if 240 ≤ c ∧ c ≤ 244 ∧ fo 3 t = true then (if c = 240 ∧ t.getD 0 0 < 144 ∨ c = 244 ∧ 143 < t.getD 0 0 then 0 else 4)
    else 0 := rfl
theorem fo_app {k : Nat} {t : List Nat} (m : List Nat) (h : fo k t = true) : fo k (t ++ m) = true := by
  induction k generalizing t with
  | zero => rfl
  | succ k ih =>
    cases t with
    | nil => cases h
    | cons c t =>
      simp only [List.cons_append, fo, Bool.and_eq_true] at h ⊢
      exact ⟨h.1, ih h.2⟩
theorem fo_len {k : Nat} {t : List Nat} (h : fo k t = true) : k ≤ t.length := by
  induction k generalizing t with
  | zero => omega
  | succ k ih =>
    cases t with
    | nil => cases h
    | cons c t =>
      simp only [fo, Bool.and_eq_true] at h
      have := ih h.2
      rw [List.length_cons]
      omega
theorem fo_take {k : Nat} {t : List Nat} (h : fo k t = true) : fo k (t.take k) = true := by
  induction k generalizing t with
  | zero => rfl
  | succ k ih =>
    cases t with
    | nil => cases h
    | cons c t =>
      simp only [List.take_succ_cons, fo, Bool.and_eq_true] at h ⊢
      exact ⟨h.1, ih h.2⟩
theorem fo_less {k j : Nat} {t : List Nat} (h : fo k t = true) (hj : j ≤ k) : fo j t = true := by
  induction k generalizing t j with
  | zero =>
    have : j = 0 := by omega
    subst this
    rfl
  | succ k ih =>
    cases j with
    | zero => rfl
    | succ j =>
      cases t with
      | nil => cases h
      | cons c t =>
        simp only [fo, Bool.and_eq_true] at h ⊢
        exact ⟨h.1, ih h.2 (by omega)⟩
theorem fo_short {k : Nat} {t : List Nat} (h : t.length < k) : fo k t = false := by
  cases e : fo k t
  · rfl
  · have := fo_len e; omega
theorem fo_get {k j : Nat} {t : List Nat} (h : fo k t = true) (hj : j < k) : 128 ≤ t.getD j 0 ∧ t.getD j 0 ≤ 191 := by
  induction k generalizing t j with
  | zero => omega
  | succ k ih =>
    cases t with
    | nil => cases h
    | cons c t =>
      simp only [fo, Bool.and_eq_true, isc, decide_eq_true_eq] at h
      cases j with
      | zero => simpa using h.1
      | succ j => simpa using ih h.2 (by omega)

/-- What a rune of so many bytes is. -/
theorem sz_cases {c : Nat} {t : List Nat} (h : sz (c :: t) ≠ 0) : (sz (c :: t) = 1 ∧ c < 128) ∨ (sz (c :: t) = 2 ∧ 194 ≤ c ∧ c ≤ 223 ∧ fo 1 t = true) ∨
    (sz (c :: t) = 3 ∧ 224 ≤ c ∧ c ≤ 239 ∧ fo 2 t = true ∧ ¬ (c = 224 ∧ t.getD 0 0 < 160 ∨ c = 237 ∧ 159 < t.getD 0 0)) ∨
    (sz (c :: t) = 4 ∧ 240 ≤ c ∧ c ≤ 244 ∧ fo 3 t = true ∧ ¬ (c = 240 ∧ t.getD 0 0 < 144 ∨ c = 244 ∧ 143 < t.getD 0 0)) := by
  obtain ⟨s, hs⟩ : ∃ s, s = sz (c :: t) := ⟨_, rfl⟩
  rw [← hs] at h ⊢
  rw [sz_cons] at hs
  by_cases h1 : c < 128
  · rw [if_pos h1] at hs; exact Or.inl ⟨hs, h1⟩
  · rw [if_neg h1] at hs
    by_cases h2 : 194 ≤ c ∧ c ≤ 223 ∧ fo 1 t = true
    · rw [if_pos h2] at hs; exact Or.inr (Or.inl ⟨hs, h2.1, h2.2.1, h2.2.2⟩)
    · rw [if_neg h2] at hs
      by_cases h3 : 224 ≤ c ∧ c ≤ 239 ∧ fo 2 t = true
      · rw [if_pos h3] at hs
        by_cases h4 : c = 224 ∧ t.getD 0 0 < 160 ∨ c = 237 ∧ 159 < t.getD 0 0
        · rw [if_pos h4] at hs; exact absurd hs h
        · rw [if_neg h4] at hs; exact Or.inr (Or.inr (Or.inl ⟨hs, h3.1, h3.2.1, h3.2.2, h4⟩))
      · rw [if_neg h3] at hs
        by_cases h5 : 240 ≤ c ∧ c ≤ 244 ∧ fo 3 t = true
        · rw [if_pos h5] at hs
          by_cases h6 : c = 240 ∧ t.getD 0 0 < 144 ∨ c = 244 ∧ 143 < t.getD 0 0
          · rw [if_pos h6] at hs; exact absurd hs h
          · rw [if_neg h6] at hs; exact Or.inr (Or.inr (Or.inr ⟨hs, h5.1, h5.2.1, h5.2.2, h6⟩))
        · rw [if_neg h5] at hs; exact absurd hs h
/-- A rune is told by its own bytes alone. -/
theorem sz_own {c : Nat} {t u : List Nat} (h : sz (c :: t) ≠ 0) (hu : ∀ k, k + 1 ≤ sz (c :: t) → fo k t = true → fo k u = true) (hd : 3 ≤ sz (c :: t) → u.getD 0 0 = t.getD 0 0) : sz (c :: u) = sz (c :: t) := by
  rcases sz_cases h with ⟨e, h1⟩ | ⟨e, h1, h2, h3⟩ | ⟨e, h1, h2, h3, h4⟩ | ⟨e, h1, h2, h3, h4⟩
  · rw [e, sz_cons, if_pos h1]
  · have f := hu 1 (by omega) h3
    rw [e, sz_cons, if_neg (by omega), if_pos ⟨h1, h2, f⟩]
  · have f := hu 2 (by omega) h3
    have d := hd (by omega)
    rw [e, sz_cons, if_neg (by omega), if_neg (by omega), if_pos ⟨h1, h2, f⟩, d, if_neg h4]
  · have f := hu 3 (by omega) h3
    have d := hd (by omega)
    rw [e, sz_cons, if_neg (by omega), if_neg (by omega), if_neg (by omega), if_pos ⟨h1, h2, f⟩, d, if_neg h4]
theorem sz_le (l : List Nat) : sz l ≤ l.length := by
  cases l with
  | nil => exact Nat.le_refl _
  | cons c t =>
    by_cases h : sz (c :: t) = 0
    · omega
    · rw [List.length_cons]
      rcases sz_cases h with ⟨e, h1⟩ | ⟨e, h1, h2, h3⟩ | ⟨e, h1, h2, h3, h4⟩ | ⟨e, h1, h2, h3, h4⟩
      · omega
      · have := fo_len h3; omega
      · have := fo_len h3; omega
      · have := fo_len h3; omega
theorem getD_take {t : List Nat} {k : Nat} (hk : 0 < k) (m : List Nat) (ht : k ≤ t.length) : (t.take k ++ m).getD 0 0 = t.getD 0 0 := by
  cases t with
  | nil => simp at ht; omega
  | cons a t =>
    cases k with
    | zero => omega
    | succ k => simp
/-- What stands behind a rune doesn't matter. -/
theorem sz_pre {l : List Nat} (h : sz l ≠ 0) (m : List Nat) : sz (l.take (sz l) ++ m) = sz l := by
  cases l with
  | nil => exact absurd rfl h
  | cons c t =>
    obtain ⟨k, hk⟩ : ∃ k, sz (c :: t) = k + 1 := ⟨sz (c :: t) - 1, by omega⟩
    have hl := sz_le (c :: t)
    rw [List.length_cons] at hl
    have e : (c :: t).take (sz (c :: t)) ++ m = c :: (t.take k ++ m) := by rw [hk]; rfl
    rw [e]
    refine sz_own h (fun j hj hf => ?_) (fun h3 => ?_)
    · have hjk : j ≤ k := by omega
      have h1 := fo_take hf
      have h2 : t.take j = (t.take k).take j := by rw [List.take_take, Nat.min_eq_left hjk]
      rw [h2] at h1
      have h3 : fo j ((t.take k).take j ++ ((t.take k).drop j ++ m)) = true := fo_app _ h1
      rw [← List.append_assoc, List.take_append_drop] at h3
      exact h3
    · exact getD_take (by omega) m (by omega)
theorem sz_app {l : List Nat} (h : sz l ≠ 0) (m : List Nat) : sz (l ++ m) = sz l := by
  have := sz_pre h (l.drop (sz l) ++ m)
  rwa [← List.append_assoc, List.take_append_drop] at this
/-- A rune of some bytes without its last one is none. -/
theorem sz_cut {l : List Nat} (h : sz l = l.length) (h2 : 2 ≤ l.length) : sz l.dropLast = 0 ∧ 128 ≤ l.getLast?.getD 0 := by
  cases l with
  | nil => simp at h2
  | cons c t =>
    have h0 : sz (c :: t) ≠ 0 := by omega
    rw [List.length_cons] at h h2
    have ht : t ≠ [] := by intro e; subst e; simp at h2
    have ed : (c :: t).dropLast = c :: t.dropLast := List.dropLast_cons_of_ne_nil ht
    have el : (c :: t).getLast?.getD 0 = t.getD (t.length - 1) 0 := by
      rw [List.getLast?_cons, List.getD_eq_getElem?_getD, ← List.getLast?_eq_getElem?]
      cases hx : t.getLast? with
      | none => exact absurd (List.getLast?_eq_none_iff.1 hx) ht
      | some y => rfl
    rw [ed, el]
    have hdl : t.dropLast.length = t.length - 1 := List.length_dropLast
    rcases sz_cases h0 with ⟨e, h1⟩ | ⟨e, h1, h3, h4⟩ | ⟨e, h1, h3, h4, h5⟩ | ⟨e, h1, h3, h4, h5⟩
    · omega
    · have g := fo_get (j := t.length - 1) h4 (by omega)
      refine ⟨?_, g.1⟩
      rw [sz_cons, if_neg (by omega), if_neg (fun x => by rw [fo_short (by omega)] at x; exact absurd x.2.2 (by simp)), if_neg (by omega), if_neg (by omega)]
    · have g := fo_get (j := t.length - 1) h4 (by omega)
      refine ⟨?_, g.1⟩
      rw [sz_cons, if_neg (by omega), if_neg (by omega), if_neg (fun x => by rw [fo_short (by omega)] at x; exact absurd x.2.2 (by simp)), if_neg (by omega)]
    · have g := fo_get (j := t.length - 1) h4 (by omega)
      refine ⟨?_, g.1⟩
      rw [sz_cons, if_neg (by omega), if_neg (by omega), if_neg (by omega), if_neg (fun x => by rw [fo_short (by omega)] at x; exact absurd x.2.2 (by simp))]

/-- Runes one behind the other to the end, none a control byte. -/
def okf : Nat → List Nat → Bool
  | _, [] => true
  | 0, _ :: _ => false
  | f + 1, c :: t => if sz (c :: t) = 0 ∨ c < 32 ∨ c = 127 then false else okf f ((c :: t).drop (sz (c :: t)))
def okl (l : List Nat) : Bool := okf l.length l
theorem okf_fuel {f : Nat} : ∀ {l : List Nat}, l.length ≤ f → okf f l = okf l.length l := by
  induction f using Nat.strongRecOn with
  | ind f ih =>
    intro l hl
    cases l with
    | nil => cases f <;> rfl
    | cons c t =>
      rw [List.length_cons] at hl ⊢
      cases f with
      | zero => omega
      | succ f =>
        unfold okf
        by_cases h : sz (c :: t) = 0 ∨ c < 32 ∨ c = 127
        · rw [if_pos h, if_pos h]
        · rw [if_neg h, if_neg h]
          have h0 : sz (c :: t) ≠ 0 := fun e => h (Or.inl e)
          have hd : ((c :: t).drop (sz (c :: t))).length ≤ t.length := by rw [List.length_drop, List.length_cons]; omega
          rw [ih f (by omega) (by omega)]
          rcases Nat.lt_or_ge t.length (f + 1) with c1 | c1
          · rw [ih t.length (by omega) hd]
          · omega
theorem okl_cons {c : Nat} {t : List Nat} : okl (c :: t) = (if sz (c :: t) = 0 ∨ c < 32 ∨ c = 127 then false else okl ((c :: t).drop (sz (c :: t)))) := by
  show okf (t.length + 1) (c :: t) = _
  conv => lhs; unfold okf
  by_cases h : sz (c :: t) = 0 ∨ c < 32 ∨ c = 127
  · rw [if_pos h, if_pos h]
  · rw [if_neg h, if_neg h]
    have h0 : sz (c :: t) ≠ 0 := fun e => h (Or.inl e)
    exact okf_fuel (by rw [List.length_drop, List.length_cons]; omega)
theorem okl_parts {l : List Nat} (hl : l ≠ []) (h : okl l = true) : sz l ≠ 0 ∧ okl (l.drop (sz l)) = true ∧ ∃ c t, l = c :: t ∧ 32 ≤ c ∧ c ≠ 127 := by
  cases l with
  | nil => exact absurd rfl hl
  | cons c t =>
    rw [okl_cons] at h
    by_cases k : sz (c :: t) = 0 ∨ c < 32 ∨ c = 127
    · rw [if_pos k] at h; cases h
    · rw [if_neg k] at h
      exact ⟨fun e => k (Or.inl e), h, c, t, rfl, by omega, by omega⟩
/-- What is whole does not change what stands behind it. -/
theorem okl_app : ∀ (n : Nat) (a b : List Nat), a.length ≤ n → okl a = true → okl (a ++ b) = okl b := by
  intro n
  induction n with
  | zero =>
    intro a b hn h
    have : a = [] := List.eq_nil_of_length_eq_zero (by omega)
    subst this
    rfl
  | succ n ih =>
    intro a b hn h
    cases a with
    | nil => rfl
    | cons c t =>
      obtain ⟨h0, h1, c', t', e, h2, h3⟩ := okl_parts (by simp) h
      obtain ⟨rfl, rfl⟩ := List.cons.inj e
      have hs := sz_app h0 b
      have hle := sz_le (c :: t)
      rw [List.cons_append] at hs ⊢
      rw [okl_cons, hs, if_neg (by omega)]
      have hd : (c :: (t ++ b)).drop (sz (c :: t)) = (c :: t).drop (sz (c :: t)) ++ b := by
        rw [← List.cons_append, List.drop_append_of_le_length hle]
      rw [hd]
      exact ih _ b (by rw [List.length_drop]; omega) h1
/-- Without its last byte a text may be just if that was a rune by itself. -/
theorem okl_last : ∀ (n : Nat) (a : List Nat), a.length ≤ n → a ≠ [] → okl a = true → okl a.dropLast = decide (a.getLast?.getD 0 < 128) := by
  intro n
  induction n with
  | zero =>
    intro a hn ha h
    exact absurd (List.eq_nil_of_length_eq_zero (by omega)) ha
  | succ n ih =>
    intro a hn ha h
    obtain ⟨h0, h1, c, t, e, h2, h3⟩ := okl_parts ha h
    have hle := sz_le a
    by_cases hr : a.drop (sz a) = []
    · have hlen : sz a = a.length := by
        have := congrArg List.length hr
        rw [List.length_drop, List.length_nil] at this
        omega
      by_cases h4 : 2 ≤ a.length
      · obtain ⟨g1, g2⟩ := sz_cut hlen h4
        rw [decide_eq_false (by omega)]
        subst e
        have ht : t ≠ [] := by intro e; subst e; simp at h4
        rw [List.dropLast_cons_of_ne_nil ht] at g1 ⊢
        rw [okl_cons, if_pos (Or.inl g1)]
      · subst e
        have ht : t = [] := by cases t with
          | nil => rfl
          | cons b t => simp at h4
        subst ht
        have h5 : c < 128 := by
          rcases sz_cases h0 with ⟨e, h1⟩ | ⟨e, h1, h3, h4⟩ | ⟨e, h1, h3, h4, h5⟩ | ⟨e, h1, h3, h4, h5⟩
          · exact h1
          · rw [e] at hlen; simp at hlen
          · rw [e] at hlen; simp at hlen
          · rw [e] at hlen; simp at hlen
        show okl [] = decide (c < 128)
        rw [decide_eq_true h5]
        rfl
    · have hsplit : a = a.take (sz a) ++ a.drop (sz a) := (List.take_append_drop _ _).symm
      have hdl : a.dropLast = a.take (sz a) ++ (a.drop (sz a)).dropLast := by
        conv => lhs; rw [hsplit]
        rw [List.dropLast_append_of_ne_nil hr]
      have hla : a.getLast?.getD 0 = (a.drop (sz a)).getLast?.getD 0 := by
        conv => lhs; rw [hsplit]
        rw [List.getLast?_append]
        cases hx : (a.drop (sz a)).getLast? with
        | none => exact absurd (List.getLast?_eq_none_iff.1 hx) hr
        | some y => rfl
      rw [hla, hdl]
      have hz := sz_pre h0 ((a.drop (sz a)).dropLast)
      have htl : (a.take (sz a)).length = sz a := by rw [List.length_take]; omega
      obtain ⟨u, hu⟩ : ∃ u, a.take (sz a) ++ (a.drop (sz a)).dropLast = c :: u := by
        subst e
        obtain ⟨k, hk⟩ : ∃ k, sz (c :: t) = k + 1 := ⟨sz (c :: t) - 1, by omega⟩
        exact ⟨t.take k ++ ((c :: t).drop (sz (c :: t))).dropLast, by rw [hk]; rfl⟩
      have hdrop : (a.take (sz a) ++ (a.drop (sz a)).dropLast).drop (sz a) = (a.drop (sz a)).dropLast := by
        rw [List.drop_append_of_le_length (by omega), List.drop_of_length_le (by omega), List.nil_append]
      rw [hu] at hz hdrop ⊢
      rw [okl_cons, hz, if_neg (by omega), hdrop]
      exact ih _ (by rw [List.length_drop]; omega) hr h1

/-! Numbers. -/
def isd (c : Nat) : Bool := decide (48 ≤ c) && decide (c ≤ 57)
def val (ds : List Nat) : Nat := ds.foldl (fun n c => 10 * n + (c - 48)) 0
theorem val_snoc (ds : List Nat) (c : Nat) : val (ds ++ [c]) = 10 * val ds + (c - 48) := by unfold val; rw [List.foldl_append]; rfl
/-- A number above 0 in decimal digits. -/
def dgf : Nat → Nat → List Nat
  | 0, _ => []
  | f + 1, n => if n = 0 then [] else dgf f (n / 10) ++ [48 + n % 10]
def dg (n : Nat) : List Nat := dgf n n
theorem dgf_fuel {f : Nat} : ∀ {n : Nat}, n ≤ f → dgf f n = dgf n n := by
  induction f using Nat.strongRecOn with
  | ind f ih =>
    intro n hn
    cases n with
    | zero => cases f <;> rfl
    | succ n =>
      cases f with
      | zero => omega
      | succ f =>
        unfold dgf
        rw [if_neg (by omega), if_neg (by omega)]
        have hd : (n + 1) / 10 ≤ n := by omega
        congr 1
        rcases Nat.lt_or_ge n f with c | c
        · rw [ih f (by omega) (by omega), ih n (by omega) hd]
        · have : n = f := by omega
          subst this
          rfl
theorem dg_pos {n : Nat} (h : 0 < n) : dg n = dg (n / 10) ++ [48 + n % 10] := by
  unfold dg
  cases n with
  | zero => omega
  | succ n =>
    conv => lhs; unfold dgf
    rw [if_neg (by omega), dgf_fuel (by omega)]
theorem dg_zero : dg 0 = [] := rfl
theorem val_dg (n : Nat) : val (dg n) = n := by
  induction n using Nat.strongRecOn with
  | ind n ih =>
    rcases Nat.eq_zero_or_pos n with e | e
    · subst e; rfl
    · rw [dg_pos e, val_snoc, ih (n / 10) (by omega)]
      omega
theorem dg_isd (n : Nat) : ∀ c ∈ dg n, isd c = true := by
  induction n using Nat.strongRecOn with
  | ind n ih =>
    rcases Nat.eq_zero_or_pos n with e | e
    · subst e; intro c hc; cases hc
    · rw [dg_pos e]
      intro c hc
      rcases List.mem_append.1 hc with h | h
      · exact ih (n / 10) (by omega) c h
      · simp at h
        subst h
        unfold isd
        have := Nat.mod_lt n (show 0 < 10 by omega)
        simp
        omega
theorem dg_head {n : Nat} (h : 0 < n) : ∃ c t, dg n = c :: t ∧ 49 ≤ c ∧ c ≤ 57 := by
  induction n using Nat.strongRecOn with
  | ind n ih =>
    rw [dg_pos h]
    rcases Nat.eq_zero_or_pos (n / 10) with e | e
    · rw [e, dg_zero]
      refine ⟨48 + n % 10, [], rfl, ?_, ?_⟩ <;> omega
    · obtain ⟨c, t, h1, h2, h3⟩ := ih (n / 10) (by omega) e
      exact ⟨c, t ++ [48 + n % 10], by rw [h1]; rfl, h2, h3⟩
theorem dg_len {n k : Nat} (h : n < 10 ^ k) : (dg n).length ≤ k := by
  induction k generalizing n with
  | zero =>
    have : n = 0 := by rw [Nat.pow_zero] at h; omega
    subst this
    exact Nat.le_refl _
  | succ k ih =>
    rcases Nat.eq_zero_or_pos n with e | e
    · subst e; exact Nat.zero_le _
    · rw [dg_pos e, List.length_append]
      have := ih (n := n / 10) (by rw [Nat.pow_succ] at h; omega)
      simp
      exact this
/-- Digits, the first of which is not 0, are those of the number that they are. -/
theorem dg_val {ds : List Nat} (hd : ∀ c ∈ ds, isd c = true) (h0 : ∀ c t, ds = c :: t → 49 ≤ c) : dg (val ds) = ds := by
  have key : ∀ (k : Nat) (ds : List Nat), ds.length ≤ k → (∀ c ∈ ds, isd c = true) → (∀ c t, ds = c :: t → 49 ≤ c) → dg (val ds) = ds ∧ (ds ≠ [] → 0 < val ds) := by
    intro k
    induction k with
    | zero =>
      intro ds hk _ _
      have : ds = [] := List.eq_nil_of_length_eq_zero (by omega)
      subst this
      exact ⟨rfl, fun h => absurd rfl h⟩
    | succ k ih =>
      intro ds hk hd h0
      rcases List.eq_nil_or_concat ds with e | ⟨es, c, e⟩
      · subst e; exact ⟨rfl, fun h => absurd rfl h⟩
      · have e' : ds = es ++ [c] := by rw [e, List.concat_eq_append]
        subst e'
        clear e
        have hc := hd c (by simp)
        unfold isd at hc
        simp at hc
        have hk' : es.length ≤ k := by rw [List.length_append] at hk; simp at hk; omega
        obtain ⟨i1, i2⟩ := ih es hk' (fun x hx => hd x (List.mem_append_left _ hx)) (fun x t hx => h0 x (t ++ [c]) (by rw [hx]; rfl))
        have hv : 0 < 10 * val es + (c - 48) := by
          by_cases hes : es = []
          · subst hes
            have := h0 c [] rfl
            show 0 < 10 * 0 + (c - 48)
            omega
          · have := i2 hes
            omega
        refine ⟨?_, fun _ => by rw [val_snoc]; exact hv⟩
        rw [val_snoc, dg_pos hv]
        have e1 : (10 * val es + (c - 48)) / 10 = val es := by omega
        have e2 : 48 + (10 * val es + (c - 48)) % 10 = c := by omega
        rw [e1, e2, i1]
  exact (key ds.length ds (Nat.le_refl _) hd h0).1

/-- A space and a number that a list begins with: the number, what is left, and what is wrong (0: nothing; 1: too great; 2: the form). -/
def num (most : Nat) : List Nat → Nat × List Nat × Nat
  | 32 :: c :: t =>
    if 49 ≤ c ∧ c ≤ 57 then
      (if 10 < ((c :: t).takeWhile isd).length ∨ most < val (((c :: t).takeWhile isd).take 10) then (0, [], 1) else (val ((c :: t).takeWhile isd), (c :: t).dropWhile isd, 0))
    else (0, [], 2)
  | _ => (0, [], 2)
theorem num_cons (most c : Nat) (t : List Nat) : num most (32 :: c :: t) = if 49 ≤ c ∧ c ≤ 57 then
      (if 10 < ((c :: t).takeWhile isd).length ∨ most < val (((c :: t).takeWhile isd).take 10) then (0, [], 1) else (val ((c :: t).takeWhile isd), (c :: t).dropWhile isd, 0))
    else (0, [], 2) := rfl
theorem while_app {ds r : List Nat} (hd : ∀ c ∈ ds, isd c = true) (hr : ∀ c t, r = c :: t → isd c = false) : (ds ++ r).takeWhile isd = ds ∧ (ds ++ r).dropWhile isd = r := by
  induction ds with
  | nil =>
    cases r with
    | nil => exact ⟨rfl, rfl⟩
    | cons c t =>
      have := hr c t rfl
      simp [this]
  | cons c ds ih =>
    have h1 := hd c (List.mem_cons_self ..)
    obtain ⟨h2, h3⟩ := ih (fun x hx => hd x (List.mem_cons_of_mem _ hx))
    rw [List.cons_append]
    refine ⟨?_, ?_⟩
    · rw [List.takeWhile_cons_of_pos h1, h2]
    · rw [List.dropWhile_cons_of_pos h1, h3]
/-- What is put is got. -/
theorem num_dg {n most : Nat} {r : List Nat} (h1 : 0 < n) (h2 : n ≤ most) (h3 : most < 10 ^ 10) (hr : ∀ c t, r = c :: t → isd c = false) : num most (32 :: (dg n ++ r)) = (n, r, 0) := by
  obtain ⟨c, t, e, c1, c2⟩ := dg_head h1
  obtain ⟨w1, w2⟩ := while_app (dg_isd n) hr
  have hl := dg_len (n := n) (k := 10) (by omega)
  rw [e, List.cons_append] at w1 w2 ⊢
  rw [num_cons, if_pos ⟨c1, c2⟩, w1, w2, ← e]
  rw [List.take_of_length_le hl, val_dg, if_neg (by omega)]
/-- What is got was so put. -/
theorem dg_num {most : Nat} {l r : List Nat} {n : Nat} (h : num most l = (n, r, 0)) : l = 32 :: (dg n ++ r) ∧ 0 < n ∧ n ≤ most ∧ (∀ c t, r = c :: t → isd c = false) := by
  unfold num at h
  split at h
  · rename_i c t
    by_cases hc : 49 ≤ c ∧ c ≤ 57
    · rw [if_pos hc] at h
      by_cases hb : 10 < ((c :: t).takeWhile isd).length ∨ most < val (((c :: t).takeWhile isd).take 10)
      · rw [if_pos hb] at h; cases h
      · rw [if_neg hb] at h
        simp only [Prod.mk.injEq] at h
        obtain ⟨rfl, rfl, -⟩ := h
        have hcd : isd c = true := by unfold isd; simp; omega
        have hd : ∀ x ∈ (c :: t).takeWhile isd, isd x = true := fun x hx => List.all_eq_true.1 (List.all_takeWhile) x hx
        have hh : ∀ x s, (c :: t).takeWhile isd = x :: s → 49 ≤ x := fun x s hx => by
          rw [List.takeWhile_cons_of_pos hcd] at hx
          obtain ⟨rfl, -⟩ := List.cons.inj hx
          exact hc.1
        have hv := dg_val hd hh
        refine ⟨?_, ?_, ?_, ?_⟩
        · rw [hv, List.takeWhile_append_dropWhile]
        · have : dg (val ((c :: t).takeWhile isd)) ≠ [] := by rw [hv, List.takeWhile_cons_of_pos hcd]; simp
          rcases Nat.eq_zero_or_pos (val ((c :: t).takeWhile isd)) with e | e
          · rw [e] at this; exact absurd rfl this
          · exact e
        · have e : ((c :: t).takeWhile isd).take 10 = (c :: t).takeWhile isd := List.take_of_length_le (by omega)
          rw [e] at hb
          omega
        · intro x s hx
          have := List.head?_dropWhile_not isd (c :: t)
          rw [hx] at this
          simpa using this
    · rw [if_neg hc] at h; cases h
  · cases h

/-! Texts, lines. -/
def may (t : List Nat) : Bool := decide (1 ≤ t.length) && decide (t.length ≤ 64) && okl t
theorem may_iff {t : List Nat} : may t = true ↔ 1 ≤ t.length ∧ t.length ≤ 64 ∧ okl t = true := by
  unfold may
  simp [and_assoc]
/-- Two texts that may be, of at most 64 bytes together. -/
theorem may_app {a b : List Nat} (ha : may a = true) (hb : may b = true) (h : a.length + b.length ≤ 64) : may (a ++ b) = true := by
  obtain ⟨a1, a2, a3⟩ := may_iff.1 ha
  obtain ⟨b1, b2, b3⟩ := may_iff.1 hb
  refine may_iff.2 ⟨?_, ?_, ?_⟩
  · rw [List.length_append]; omega
  · rw [List.length_append]; exact h
  · rw [okl_app _ _ _ (Nat.le_refl _) a3]; exact b3
/-- A text without its last byte. -/
theorem may_last {a : List Nat} (ha : may a = true) (h : 2 ≤ a.length) : may a.dropLast = decide (a.getLast?.getD 0 < 128) := by
  obtain ⟨a1, a2, a3⟩ := may_iff.1 ha
  have e : may a.dropLast = okl a.dropLast := by
    unfold may
    rw [List.length_dropLast, decide_eq_true (by omega), decide_eq_true (by omega)]
    rfl
  rw [e]
  exact okl_last _ _ (Nat.le_refl _) (by intro e; subst e; simp at h) a3

def wd : Nat → List Nat
  | 0 => [110, 111, 112]
  | 1 => [111, 112, 101, 110]
  | 2 => [106, 111, 105, 110]
  | 3 => [108, 101, 97, 118, 101]
  | 4 => [112, 111, 115, 116]
  | 5 => [101, 100, 105, 116]
  | 6 => [100, 101, 108, 101, 116, 101]
  | 7 => [102, 101, 116, 99, 104]
  | _ => []
def kindOf (w : List Nat) : Nat :=
  if wd 1 = w then 1 else if wd 2 = w then 2 else if wd 3 = w then 3 else if wd 4 = w then 4
  else if wd 5 = w then 5 else if wd 6 = w then 6 else if wd 7 = w then 7 else 0
theorem kindOf_lt (w : List Nat) : kindOf w < 8 := by
  unfold kindOf
  repeat' split
  all_goals omega
theorem wd_kindOf {w : List Nat} (h : kindOf w ≠ 0) : wd (kindOf w) = w := by
  unfold kindOf at h ⊢
  by_cases h1 : wd 1 = w
  · rw [if_pos h1]; exact h1
  rw [if_neg h1] at h ⊢
  by_cases h2 : wd 2 = w
  · rw [if_pos h2]; exact h2
  rw [if_neg h2] at h ⊢
  by_cases h3 : wd 3 = w
  · rw [if_pos h3]; exact h3
  rw [if_neg h3] at h ⊢
  by_cases h4 : wd 4 = w
  · rw [if_pos h4]; exact h4
  rw [if_neg h4] at h ⊢
  by_cases h5 : wd 5 = w
  · rw [if_pos h5]; exact h5
  rw [if_neg h5] at h ⊢
  by_cases h6 : wd 6 = w
  · rw [if_pos h6]; exact h6
  rw [if_neg h6] at h ⊢
  by_cases h7 : wd 7 = w
  · rw [if_pos h7]; exact h7
  rw [if_neg h7] at h
  exact absurd rfl h
/-- Each kind but nop. -/
theorem kinds {P : Nat → Prop} {k : Nat} (h : 1 ≤ k ∧ k ≤ 7) (h1 : P 1) (h2 : P 2) (h3 : P 3) (h4 : P 4) (h5 : P 5) (h6 : P 6) (h7 : P 7) : P k := by
  obtain ⟨a, b⟩ := h
  have : k = 1 ∨ k = 2 ∨ k = 3 ∨ k = 4 ∨ k = 5 ∨ k = 6 ∨ k = 7 := by omega
  rcases this with e | e | e | e | e | e | e <;> subst e <;> assumption
theorem kindOf_wd {k : Nat} (h : 1 ≤ k ∧ k ≤ 7) : kindOf (wd k) = k := by
  refine kinds (P := fun k => kindOf (wd k) = k) h ?_ ?_ ?_ ?_ ?_ ?_ ?_ <;> decide
theorem wd_plain {k : Nat} (h : 1 ≤ k ∧ k ≤ 7) : ∀ c ∈ wd k, decide (c ≠ 32) = true := by
  refine kinds (P := fun k => ∀ c ∈ wd k, decide (c ≠ 32) = true) h ?_ ?_ ?_ ?_ ?_ ?_ ?_ <;> decide
def numbered (k : Nat) : Bool := decide (5 ≤ k) && decide (k ≤ 7)
def worded (k : Nat) : Bool := decide (4 ≤ k) && decide (k ≤ 5)

/-- What a line asks for. -/
structure Co where
  k : Nat
  ch : Nat
  n : Nat
  t : List Nat
deriving DecidableEq
def Co.none : Co := ⟨0, 0, 0, []⟩
/-- The end of a line: a text, or nothing. -/
def ends (k ch n : Nat) (more : List Nat) : Co × Nat :=
  if worded k = true then
    (if more.head? = some 32 then
      (if 64 < more.tail.length then (Co.none, 7) else if may more.tail = true then (⟨k, ch, n, more.tail⟩, 0) else (Co.none, 2))
    else (Co.none, 2))
  else if more = [] then (⟨k, ch, n, []⟩, 0) else (Co.none, 2)
def nots (c : Nat) : Bool := decide (c ≠ 32)
/-- What follows the word. -/
def rest (k : Nat) (r : List Nat) : Co × Nat :=
  if (num (2 ^ 20) r).2.2 ≠ 0 then (Co.none, (num (2 ^ 20) r).2.2)
  else if numbered k = true then
    (if (num (2 ^ 30) (num (2 ^ 20) r).2.1).2.2 ≠ 0 then (Co.none, (num (2 ^ 30) (num (2 ^ 20) r).2.1).2.2)
    else ends k (num (2 ^ 20) r).1 (num (2 ^ 30) (num (2 ^ 20) r).2.1).1 (num (2 ^ 30) (num (2 ^ 20) r).2.1).2.1)
  else ends k (num (2 ^ 20) r).1 0 (num (2 ^ 20) r).2.1
def parse (l : List Nat) : Co × Nat :=
  if l.head? = some 47 then
    (if kindOf (l.tail.takeWhile nots) = 0 then (Co.none, 2) else rest (kindOf (l.tail.takeWhile nots)) (l.tail.dropWhile nots))
  else (Co.none, 2)
/-- The end of a line that is shown. -/
def lend (c : Co) : List Nat := if worded c.k = true then 32 :: c.t else []
def lnum (c : Co) : List Nat := if numbered c.k = true then 32 :: dg c.n else []
def line (c : Co) : List Nat := 47 :: (wd c.k ++ (32 :: (dg c.ch ++ (lnum c ++ lend c))))
structure Fit (c : Co) : Prop where
  k : 1 ≤ c.k ∧ c.k ≤ 7
  ch : 1 ≤ c.ch ∧ c.ch ≤ 2 ^ 20
  n : numbered c.k = true → 1 ≤ c.n ∧ c.n ≤ 2 ^ 30
  t : worded c.k = true → may c.t = true
def bare (c : Co) : Co := ⟨c.k, c.ch, if numbered c.k = true then c.n else 0, if worded c.k = true then c.t else []⟩

theorem ends_lend {k ch n : Nat} {t : List Nat} (ht : worded k = true → may t = true) :
    ends k ch n (lend ⟨k, ch, n, t⟩) = (⟨k, ch, n, if worded k = true then t else []⟩, 0) := by
  unfold ends lend
  by_cases h : worded k = true
  · obtain ⟨t1, t2, t3⟩ := may_iff.1 (ht h)
    rw [if_pos h, if_pos h, List.head?_cons, if_pos rfl, List.tail_cons, if_neg (by show ¬ 64 < t.length; omega), if_pos (ht h), if_pos h]
  · rw [if_neg h, if_neg h, if_pos rfl, if_neg h]
theorem lend_head (c : Co) : ∀ x t, lend c = x :: t → isd x = false := by
  intro x t h
  unfold lend at h
  split at h
  · obtain ⟨rfl, -⟩ := List.cons.inj h; rfl
  · cases h
theorem lnum_head (c : Co) : ∀ x t, lnum c ++ lend c = x :: t → isd x = false := by
  intro x t h
  unfold lnum at h
  split at h
  · obtain ⟨rfl, -⟩ := List.cons.inj h; rfl
  · exact lend_head c x t h
/-- What is shown is parsed as it was. -/
theorem parse_line {c : Co} (h : Fit c) : parse (line c) = (bare c, 0) := by
  obtain ⟨hk, hc, hn, ht⟩ := h
  have hw : (wd c.k ++ (32 :: (dg c.ch ++ (lnum c ++ lend c)))).takeWhile nots = wd c.k ∧ (wd c.k ++ (32 :: (dg c.ch ++ (lnum c ++ lend c)))).dropWhile nots = 32 :: (dg c.ch ++ (lnum c ++ lend c)) := by
    have hp := wd_plain hk
    generalize wd c.k = w at hp
    induction w with
    | nil => exact ⟨rfl, rfl⟩
    | cons x w ih =>
      have h1 : nots x = true := hp x (List.mem_cons_self ..)
      obtain ⟨h2, h3⟩ := ih (fun y hy => hp y (List.mem_cons_of_mem _ hy))
      rw [List.cons_append]
      exact ⟨by rw [List.takeWhile_cons_of_pos h1, h2], by rw [List.dropWhile_cons_of_pos h1, h3]⟩
  unfold parse line
  rw [List.head?_cons, if_pos rfl, List.tail_cons, hw.1, hw.2, kindOf_wd hk, if_neg (by omega)]
  unfold rest
  rw [num_dg (by omega) hc.2 (by decide) (lnum_head c), if_neg (by simp)]
  by_cases hb : numbered c.k = true
  · have e : lnum c = 32 :: dg c.n := by unfold lnum; rw [if_pos hb]
    obtain ⟨n1, n2⟩ := hn hb
    rw [if_pos hb, e, List.cons_append, num_dg (by omega) n2 (by decide) (lend_head c), if_neg (by simp)]
    have := ends_lend (k := c.k) (ch := c.ch) (n := c.n) ht
    unfold bare
    rw [if_pos hb]
    exact this
  · have e : lnum c = [] := by unfold lnum; rw [if_neg hb]
    rw [if_neg hb, e, List.nil_append]
    have := ends_lend (k := c.k) (ch := c.ch) (n := 0) ht
    unfold bare
    rw [if_neg hb]
    exact this
theorem ends_ok {k ch n : Nat} {more : List Nat} {c : Co} (h : ends k ch n more = (c, 0)) :
    c.k = k ∧ c.ch = ch ∧ c.n = n ∧ more = lend c ∧ (worded k = true → may c.t = true) ∧ (worded k = false → c.t = []) := by
  unfold ends at h
  by_cases hw : worded k = true
  · rw [if_pos hw] at h
    by_cases h1 : more.head? = some 32
    · rw [if_pos h1] at h
      by_cases h2 : 64 < more.tail.length
      · rw [if_pos h2] at h; cases h
      · rw [if_neg h2] at h
        by_cases h3 : may more.tail = true
        · rw [if_pos h3] at h
          obtain ⟨rfl, -⟩ := Prod.mk.inj h
          refine ⟨rfl, rfl, rfl, ?_, fun _ => h3, fun e => by rw [hw] at e; cases e⟩
          unfold lend
          rw [if_pos hw]
          cases more with
          | nil => cases h1
          | cons x t => obtain rfl := Option.some.inj h1; rfl
        · rw [if_neg h3] at h; cases h
    · rw [if_neg h1] at h; cases h
  · rw [if_neg hw] at h
    by_cases h1 : more = []
    · rw [if_pos h1] at h
      obtain ⟨rfl, -⟩ := Prod.mk.inj h
      refine ⟨rfl, rfl, rfl, ?_, fun e => absurd e hw, fun _ => rfl⟩
      unfold lend
      rw [if_neg hw]
      exact h1
    · rw [if_neg h1] at h; cases h
theorem num_ok {most : Nat} {l : List Nat} (h : (num most l).2.2 = 0) : l = 32 :: (dg (num most l).1 ++ (num most l).2.1) ∧ 0 < (num most l).1 ∧ (num most l).1 ≤ most := by
  have := dg_num (most := most) (l := l) (n := (num most l).1) (r := (num most l).2.1) (by rw [← h])
  exact ⟨this.1, this.2.1, this.2.2.1⟩
/-- What is parsed is shown as the same line. -/
theorem line_parse {l : List Nat} {c : Co} (h : parse l = (c, 0)) : Fit c ∧ line c = l ∧ bare c = c := by
  unfold parse at h
  by_cases h1 : l.head? = some 47
  · rw [if_pos h1] at h
    by_cases h2 : kindOf (l.tail.takeWhile nots) = 0
    · rw [if_pos h2] at h; cases h
    · rw [if_neg h2] at h
      have hl : l = 47 :: l.tail := by
        cases l with
        | nil => cases h1
        | cons x t => obtain rfl := Option.some.inj h1; rfl
      have hw := wd_kindOf h2
      have hlt := kindOf_lt (l.tail.takeWhile nots)
      have hs : l.tail = wd (kindOf (l.tail.takeWhile nots)) ++ l.tail.dropWhile nots := by rw [hw, List.takeWhile_append_dropWhile]
      generalize hk : kindOf (l.tail.takeWhile nots) = k at h h2 hs hlt
      generalize l.tail.dropWhile nots = r at h hs
      unfold rest at h
      by_cases h3 : (num (2 ^ 20) r).2.2 = 0
      · rw [if_neg (by omega)] at h
        obtain ⟨e1, e2, e3⟩ := num_ok h3
        by_cases hb : numbered k = true
        · rw [if_pos hb] at h
          by_cases h4 : (num (2 ^ 30) (num (2 ^ 20) r).2.1).2.2 = 0
          · rw [if_neg (by omega)] at h
            obtain ⟨f1, f2, f3⟩ := num_ok h4
            obtain ⟨g1, g2, g3, g4, g5, g6⟩ := ends_ok h
            have hbk : numbered c.k = true := by rw [g1]; exact hb
            refine ⟨⟨by omega, by omega, fun _ => by omega, fun e => g5 (by rw [← g1]; exact e)⟩, ?_, ?_⟩
            · unfold line lnum
              rw [if_pos hbk, g1, g2, g3, ← g4, List.cons_append, ← f1, ← e1, ← hs, ← hl]
            · unfold bare
              rw [if_pos hbk]
              by_cases hv : worded c.k = true
              · rw [if_pos hv]
              · rw [if_neg hv, ← g6 (by rw [← g1]; exact Bool.eq_false_iff.2 hv)]
          · rw [if_pos (by omega)] at h
            obtain ⟨-, h5⟩ := Prod.mk.inj h
            exact absurd h5 h4
        · rw [if_neg hb] at h
          obtain ⟨g1, g2, g3, g4, g5, g6⟩ := ends_ok h
          have hbk : ¬ numbered c.k = true := by rw [g1]; exact hb
          refine ⟨⟨by omega, by omega, fun e => absurd e hbk, fun e => g5 (by rw [← g1]; exact e)⟩, ?_, ?_⟩
          · unfold line lnum
            rw [if_neg hbk, g1, g2, ← g4, List.nil_append, ← e1, ← hs, ← hl]
          · unfold bare
            rw [if_neg hbk]
            by_cases hv : worded c.k = true
            · rw [if_pos hv, ← g3]
            · rw [if_neg hv, ← g6 (by rw [← g1]; exact Bool.eq_false_iff.2 hv), ← g3]
      · rw [if_pos (by omega)] at h
        obtain ⟨-, h5⟩ := Prod.mk.inj h
        exact absurd h5 h3
  · rw [if_neg h1] at h; cases h
theorem ends_none {k ch n : Nat} {more : List Nat} (h : (ends k ch n more).2 ≠ 0) : (ends k ch n more).1 = Co.none := by
  unfold ends at h ⊢
  by_cases h1 : worded k = true
  · rw [if_pos h1] at h ⊢
    by_cases h2 : more.head? = some 32
    · rw [if_pos h2] at h ⊢
      by_cases h3 : 64 < more.tail.length
      · rw [if_pos h3]
      · rw [if_neg h3] at h ⊢
        by_cases h4 : may more.tail = true
        · rw [if_pos h4] at h; exact absurd rfl h
        · rw [if_neg h4]
    · rw [if_neg h2]
  · rw [if_neg h1] at h ⊢
    by_cases h2 : more = []
    · rw [if_pos h2] at h; exact absurd rfl h
    · rw [if_neg h2]
/-- What is not parsed asks for nothing. -/
theorem parse_none {l : List Nat} (h : (parse l).2 ≠ 0) : (parse l).1 = Co.none := by
  unfold parse at h ⊢
  by_cases h1 : l.head? = some 47
  · rw [if_pos h1] at h ⊢
    by_cases h2 : kindOf (l.tail.takeWhile nots) = 0
    · rw [if_pos h2]
    · rw [if_neg h2] at h ⊢
      unfold rest at h ⊢
      split
      · rfl
      · rename_i h3
        rw [if_neg h3] at h
        split
        · rename_i h4
          rw [if_pos h4] at h
          split
          · rfl
          · rename_i h5
            rw [if_neg h5] at h
            exact ends_none h
        · rename_i h4
          rw [if_neg h4] at h
          exact ends_none h
  · rw [if_neg h1]
/-- A word and a channel. -/
theorem parse_word {w : List Nat} {ch : Nat} (hw : ∀ c ∈ w, nots c = true) (h : 1 ≤ ch ∧ ch ≤ 2 ^ 20) :
    parse (47 :: (w ++ 32 :: dg ch)) = if kindOf w = 0 then (Co.none, 2) else if kindOf w < 4 then (⟨kindOf w, ch, 0, []⟩, 0) else (Co.none, 2) := by
  have hs : (w ++ 32 :: dg ch).takeWhile nots = w ∧ (w ++ 32 :: dg ch).dropWhile nots = 32 :: dg ch := by
    induction w with
    | nil => exact ⟨rfl, rfl⟩
    | cons x w ih =>
      have h1 : nots x = true := hw x (List.mem_cons_self ..)
      obtain ⟨h2, h3⟩ := ih (fun y hy => hw y (List.mem_cons_of_mem _ hy))
      rw [List.cons_append]
      exact ⟨by rw [List.takeWhile_cons_of_pos h1, h2], by rw [List.dropWhile_cons_of_pos h1, h3]⟩
  unfold parse
  rw [List.head?_cons, if_pos rfl, List.tail_cons, hs.1, hs.2]
  by_cases h0 : kindOf w = 0
  · rw [if_pos h0, if_pos h0]
  · rw [if_neg h0, if_neg h0]
    have hlt := kindOf_lt w
    generalize kindOf w = k at h0 hlt
    unfold rest
    have e := num_dg (n := ch) (most := 2 ^ 20) (r := []) (by omega) h.2 (by decide) (fun c t e => by cases e)
    rw [List.append_nil] at e
    rw [e, if_neg (by simp)]
    have hk : 1 ≤ k ∧ k ≤ 7 := by omega
    refine kinds (P := fun k => (if numbered k = true then (if (num (2 ^ 30) (ch, ([] : List Nat), 0).2.1).2.2 ≠ 0 then (Co.none, (num (2 ^ 30) (ch, ([] : List Nat), 0).2.1).2.2) else ends k (ch, ([] : List Nat), 0).1 (num (2 ^ 30) (ch, ([] : List Nat), 0).2.1).1 (num (2 ^ 30) (ch, ([] : List Nat), 0).2.1).2.1) else ends k (ch, ([] : List Nat), 0).1 0 (ch, ([] : List Nat), 0).2.1) = if k < 4 then (⟨k, ch, 0, []⟩, 0) else (Co.none, 2)) hk ?_ ?_ ?_ ?_ ?_ ?_ ?_ <;> rfl
/-- A text posted to channel 1. -/
theorem parse_long (s : List Nat) : parse ([47, 112, 111, 115, 116, 32, 49, 32] ++ s) = if 64 < s.length then (Co.none, 7) else if may s = true then (⟨4, 1, 0, s⟩, 0) else (Co.none, 2) := by
  have e1 : ([47, 112, 111, 115, 116, 32, 49, 32] ++ s) = 47 :: ([112, 111, 115, 116] ++ (32 :: (dg 1 ++ (32 :: s)))) := rfl
  rw [e1]
  unfold parse
  rw [List.head?_cons, if_pos rfl, List.tail_cons]
  have h1 : ([112, 111, 115, 116] ++ (32 :: (dg 1 ++ (32 :: s)))).takeWhile nots = wd 4 := rfl
  have h2 : ([112, 111, 115, 116] ++ (32 :: (dg 1 ++ (32 :: s)))).dropWhile nots = 32 :: (dg 1 ++ (32 :: s)) := rfl
  rw [h1, h2, kindOf_wd (by omega), if_neg (by omega)]
  unfold rest
  rw [num_dg (by omega) (by omega) (by decide) (fun c t e => by obtain ⟨rfl, -⟩ := List.cons.inj e; rfl), if_neg (by simp)]
  rw [if_neg (by decide)]
  unfold ends
  rw [if_pos (by decide), List.head?_cons, if_pos rfl, List.tail_cons]
end Go.Proofs.YtpeieagfndggbaaDoor.Tx
