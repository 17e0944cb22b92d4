/-
  The plain theory behind package graph: what is reached, a walk on a stack and the order in which things are left, the components that a second walk against the edges finds, and the order in which components are told. No program's function is walked here. No conditions.
-/
import Derived.Test.YtgpciipemgljcaaGreatRows
import Derived.WalkKit
import Derived.WalkSpells
import Derived.WalkLawsBesides
import Derived.ProofKit
import Derived.Lib.Hide
import Derived.Lib.MinMax
import Derived.Deep.QuietTactic
import Derived.BigQuiet
import Derived.Deep.RegionHeld3
import Derived.Deep.DrawnRows
namespace Go.Proofs.YtgpciipemgljcaaGreat.Gp

/-- What a thing reaches: itself, and whatever an edge leads to from what it reaches. -/
inductive Rt (E : Nat → Nat → Prop) (a : Nat) : Nat → Prop
  | refl : Rt E a a
  | step {b c : Nat} : Rt E a b → E b c → Rt E a c

variable {E F : Nat → Nat → Prop} {m : Nat}

theorem Rt.one {a b : Nat} (e : E a b) : Rt E a b := .step .refl e
theorem Rt.trans {a b c : Nat} (h : Rt E a b) (k : Rt E b c) : Rt E a c := by
  induction k with
  | refl => exact h
  | step _ e ih => exact ih.step e
theorem Rt.turn {a b : Nat} (h : Rt E a b) : Rt (fun x y => E y x) b a := by
  induction h with
  | refl => exact .refl
  | step _ e ih => exact (Rt.one (E := fun x y => E y x) e).trans ih
theorem Rt.back {a b : Nat} (h : Rt (fun x y => E y x) a b) : Rt E b a := h.turn
theorem Rt.mono {a b : Nat} (h : Rt E a b) (hE : ∀ x y, E x y → F x y) : Rt F a b := by
  induction h with
  | refl => exact .refl
  | step _ e ih => exact ih.step (hE _ _ e)
theorem Rt.stays {a b : Nat} (P : Nat → Prop) (h : Rt E a b) (ha : P a) (hc : ∀ x y, P x → E x y → P y) : P b := by
  induction h with
  | refl => exact ha
  | step _ e ih => exact hc _ _ ih e
theorem Rt.lt {a b : Nat} (hE : ∀ x y, E x y → x < m ∧ y < m) (h : Rt E a b) (ha : a < m) : b < m := h.stays (· < m) ha fun _ _ _ e => (hE _ _ e).2

/-- All that it reaches was left ahead of it. -/
def Cl (E : Nat → Nat → Prop) (P : Nat → Prop) (t : Nat) : Prop := ∀ z, Rt E t z → P z ∨ z = t
/-- Something of its component is left later. -/
def Op (E : Nat → Nat → Prop) (P : Nat → Prop) (t : Nat) : Prop := ∃ s, Rt E t s ∧ Rt E s t ∧ ¬ P s ∧ s ≠ t
/-- The order in which things are left, P ahead of all of them. -/
def Ord (E : Nat → Nat → Prop) : (Nat → Prop) → List Nat → Prop
  | _, [] => True
  | P, t :: r => (Cl E P t ∨ Op E P t) ∧ Ord E (fun x => P x ∨ x = t) r

theorem Ord.congr {P Q : Nat → Prop} {l : List Nat} (h : ∀ x, P x ↔ Q x) (ho : Ord E P l) : Ord E Q l := by
  have : P = Q := funext fun x => propext (h x)
  rwa [← this]
theorem ord_append {l r : List Nat} : ∀ {P : Nat → Prop}, Ord E P (l ++ r) ↔ Ord E P l ∧ Ord E (fun x => P x ∨ x ∈ l) r := by
  induction l with
  | nil => intro P; simp [Ord]
  | cons t l ih =>
    intro P
    simp only [List.cons_append, Ord, ih, List.mem_cons]
    constructor
    · rintro ⟨a, b, c⟩
      exact ⟨⟨a, b⟩, c.congr fun x => by simp [or_assoc]⟩
    · rintro ⟨⟨a, b⟩, c⟩
      exact ⟨a, b, c.congr fun x => by simp [or_assoc]⟩

/-- A thing that reaches t, left ahead of t with all of its component: there is none. -/
theorem ord_key {t : Nat} : ∀ {l : List Nat} {P : Nat → Prop} {w : Nat}, Ord E P l → ¬ P t → t ∉ l → w ∈ l → Rt E w t → (∀ s, Rt E w s → Rt E s w → P s ∨ s ∈ l) → False := by
  intro l
  induction l with
  | nil => intro P w _ _ _ h; simp at h
  | cons x r ih =>
    intro P w ho hP ht hw hr hc
    simp only [List.mem_cons, not_or] at ht
    have go : ∀ v, v ∈ r → Rt E v t → (∀ s, Rt E v s → Rt E s v → P s ∨ s ∈ x :: r) → False := fun v hv hvr hvc =>
      ih ho.2 (fun h => h.elim hP ht.1) ht.2 hv hvr fun s a b => by
        rcases hvc s a b with h | h
        · exact .inl (.inl h)
        · rcases List.mem_cons.1 h with h | h
          · exact .inl (.inr h)
          · exact .inr h
    rcases List.mem_cons.1 hw with rfl | hw
    · rcases ho.1 with hcl | ⟨s, a, b, hs, hne⟩
      · rcases hcl t hr with h | h
        · exact hP h
        · exact ht.1 h
      · have hsr : s ∈ r := by
          rcases hc s a b with h | h
          · exact absurd h hs
          · rcases List.mem_cons.1 h with h | h
            · exact absurd h hne
            · exact h
        exact go s hsr (b.trans hr) fun s' a' b' => hc s' (a.trans a') (b'.trans b)
    · exact go w hw hr hc

/-- The marks with one more. -/
def upd (seen : Nat → Bool) (v : Nat) : Nat → Bool := fun x => seen x || x == v
theorem upd_iff {seen : Nat → Bool} {v x : Nat} : upd seen v x = true ↔ seen x = true ∨ x = v := by simp [upd]

/-- The walk from f, on the stack st (the last one on top), left behind, so many marks. -/
structure Inv (E : Nat → Nat → Prop) (m : Nat) (seen0 : Nat → Bool) (f : Nat) (st left : List Nat) (seen : Nat → Bool) : Prop where
  see : ∀ x, seen x = true ↔ seen0 x = true ∨ x ∈ left ∨ x ∈ st
  nd : (left ++ st).Nodup
  out : ∀ x, x ∈ left ∨ x ∈ st → seen0 x = false ∧ x < m ∧ Rt E f x
  way : st.Pairwise (Rt E)
  shut : ∀ u, u ∈ left → ∀ y, E u y → seen y = true
  ord : Ord E (fun x => seen0 x = true) left
  has : f ∈ left ∨ f ∈ st

theorem Inv.start {seen0 : Nat → Bool} {f : Nat} (h0 : seen0 f = false) (hf : f < m) : Inv E m seen0 f [f] [] (upd seen0 f) where
  see x := by simp [upd_iff]
  nd := by simp
  out x h := by
    obtain rfl : x = f := by simpa using h
    exact ⟨h0, hf, .refl⟩
  way := by simp
  shut u h := by simp at h
  ord := trivial
  has := .inr (by simp)

theorem Inv.push {seen0 seen : Nat → Bool} {f t v : Nat} {st left : List Nat} (h : Inv E m seen0 f (st ++ [t]) left seen) (hE : ∀ x y, E x y → x < m ∧ y < m) (e : E t v) (hv : seen v = false) :
    Inv E m seen0 f (st ++ [t] ++ [v]) left (upd seen v) := by
  have hn : ¬ (seen0 v = true ∨ v ∈ left ∨ v ∈ st ++ [t]) := fun k => by rw [← h.see v, hv] at k; cases k
  have ht : t ∈ st ++ [t] := by simp
  have hft := (h.out t (.inr ht)).2.2
  have hto : ∀ s ∈ st ++ [t], Rt E s t := fun s hs => by
    rcases List.mem_append.1 hs with hs | hs
    · have := (List.pairwise_append.1 h.way).2.2 s hs t (by simp)
      exact this
    · obtain rfl : s = t := by simpa using hs
      exact .refl
  refine ⟨fun x => ?_, ?_, fun x hx => ?_, ?_, fun u hu y ey => ?_, h.ord, ?_⟩
  · rw [upd_iff, h.see x]
    simp only [List.mem_append, List.mem_singleton]
    constructor
    · rintro ((a | b | c) | d)
      · exact .inl a
      · exact .inr (.inl b)
      · exact .inr (.inr (.inl c))
      · exact .inr (.inr (.inr d))
    · rintro (a | b | c | d)
      · exact .inl (.inl a)
      · exact .inl (.inr (.inl b))
      · exact .inl (.inr (.inr c))
      · exact .inr d
  · rw [← List.append_assoc, List.nodup_append]
    refine ⟨h.nd, by simp, fun a ha b hb => ?_⟩
    obtain rfl : b = v := by simpa using hb
    rintro rfl
    exact hn (.inr (List.mem_append.1 ha))
  · rcases hx with hx | hx
    · exact h.out x (.inl hx)
    · rcases List.mem_append.1 hx with hx | hx
      · exact h.out x (.inr hx)
      · obtain rfl : x = v := by simpa using hx
        refine ⟨?_, (hE _ _ e).2, hft.step e⟩
        rcases hz : seen0 x with _ | _
        · rfl
        · exact absurd (.inl hz) hn
  · rw [List.pairwise_append]
    refine ⟨h.way, by simp, fun a ha b hb => ?_⟩
    obtain rfl : b = v := by simpa using hb
    exact (hto a ha).step e
  · rw [upd_iff]
    exact .inl (h.shut u hu y ey)
  · rcases h.has with k | k
    · exact .inl k
    · exact .inr (List.mem_append_left _ k)

theorem Inv.pop {seen0 seen : Nat → Bool} {f t : Nat} {st left : List Nat} (h : Inv E m seen0 f (st ++ [t]) left seen) (h0 : ∀ x y, seen0 x = true → E x y → seen0 y = true) (hs : ∀ y, E t y → seen y = true) :
    Inv E m seen0 f st (left ++ [t]) seen := by
  have ht : t ∈ st ++ [t] := by simp
  have hnd := h.nd
  rw [List.nodup_append] at hnd
  have hst := (List.nodup_append.1 hnd.2.1)
  have hto : ∀ s ∈ st, Rt E s t := fun s hs => (List.pairwise_append.1 h.way).2.2 s hs t (by simp)
  have htl : t ∉ left := fun k => hnd.2.2 t k t ht rfl
  have hts : t ∉ st := fun k => hst.2.2 t k t (by simp) rfl
  refine ⟨fun x => ?_, ?_, fun x hx => ?_, (List.pairwise_append.1 h.way).1, fun u hu y ey => ?_, ?_, ?_⟩
  · rw [h.see x]
    simp only [List.mem_append, List.mem_singleton]
    constructor
    · rintro (a | b | c | d)
      · exact .inl a
      · exact .inr (.inl (.inl b))
      · exact .inr (.inr c)
      · exact .inr (.inl (.inr d))
    · rintro (a | (b | d) | c)
      · exact .inl a
      · exact .inr (.inl b)
      · exact .inr (.inr (.inr d))
      · exact .inr (.inr (.inl c))
  · rw [List.nodup_append]
    refine ⟨?_, hst.1, fun a ha b hb => ?_⟩
    · rw [List.nodup_append]
      refine ⟨hnd.1, by simp, fun a ha b hb => ?_⟩
      obtain rfl : b = t := by simpa using hb
      rintro rfl
      exact htl ha
    · rcases List.mem_append.1 ha with ha | ha
      · exact hnd.2.2 a ha b (List.mem_append_left _ hb)
      · obtain rfl : a = t := by simpa using ha
        rintro rfl
        exact hts hb
  · refine h.out x ?_
    simp only [List.mem_append, List.mem_singleton] at hx ⊢
    rcases hx with (a | b) | c
    · exact .inl a
    · exact .inr (.inr b)
    · exact .inr (.inl c)
  · rcases List.mem_append.1 hu with hu | hu
    · exact h.shut u hu y ey
    · obtain rfl : u = t := by simpa using hu
      exact hs y ey
  · rw [ord_append]
    refine ⟨h.ord, ?_, trivial⟩
    by_cases hx : ∃ s, s ∈ st ∧ Rt E t s
    · obtain ⟨s, hs1, hs2⟩ := hx
      refine .inr ⟨s, hs2, hto s hs1, ?_, fun k => hts (k ▸ hs1)⟩
      rintro (k | k)
      · have := (h.out s (.inr (List.mem_append_left _ hs1))).1
        rw [k] at this; cases this
      · exact hnd.2.2 s k s (List.mem_append_left _ hs1) rfl
    · refine .inl fun z hz => ?_
      have key : (seen0 z = true ∨ z ∈ left ∨ z = t) ∧ Rt E t z := by
        refine hz.stays (fun z => (seen0 z = true ∨ z ∈ left ∨ z = t) ∧ Rt E t z) ⟨.inr (.inr rfl), .refl⟩ fun x y hx1 e => ⟨?_, hx1.2.step e⟩
        have hy : seen y = true → seen0 y = true ∨ y ∈ left ∨ y = t := fun hy => by
          rcases (h.see y).1 hy with a | b | c
          · exact .inl a
          · exact .inr (.inl b)
          · rcases List.mem_append.1 c with c | c
            · exact absurd ⟨y, c, hx1.2.step e⟩ hx
            · exact .inr (.inr (by simpa using c))
        rcases hx1.1 with a | b | c
        · exact .inl (h0 x y a e)
        · exact hy (h.shut x b y e)
        · subst c; exact hy (hs y e)
      rcases key.1 with a | b | c
      · exact .inl (.inl a)
      · exact .inl (.inr b)
      · exact .inr c
  · rcases h.has with k | k
    · exact .inl (List.mem_append_left _ k)
    · rcases List.mem_append.1 k with k | k
      · exact .inr k
      · exact .inl (List.mem_append_right _ k)

/-- What a walk from f leaves, so many seen ahead. -/
structure Lft (E : Nat → Nat → Prop) (m : Nat) (seen0 : Nat → Bool) (f : Nat) (l : List Nat) : Prop where
  nd : l.Nodup
  inn : ∀ x, x ∈ l → seen0 x = false ∧ x < m ∧ Rt E f x
  all : ∀ z, Rt E f z → z ∈ l ∨ seen0 z = true
  ord : Ord E (fun x => seen0 x = true) l

theorem Inv.fin {seen0 seen : Nat → Bool} {f : Nat} {left : List Nat} (h : Inv E m seen0 f [] left seen) (h0 : ∀ x y, seen0 x = true → E x y → seen0 y = true) : Lft E m seen0 f left ∧ ∀ x, seen x = (seen0 x || decide (x ∈ left)) := by
  refine ⟨⟨by simpa using h.nd, fun x hx => h.out x (.inl hx), fun z hz => ?_, h.ord⟩, fun x => ?_⟩
  · refine hz.stays (fun z => z ∈ left ∨ seen0 z = true) (.inl (by simpa using h.has)) fun x y hx e => ?_
    rcases hx with hx | hx
    · rcases (h.see y).1 (h.shut x hx y e) with a | b | c
      · exact .inr a
      · exact .inl b
      · simp at c
    · exact .inr (h0 x y hx e)
  · rw [Bool.eq_iff_iff, h.see x]
    simp

/-- How many are not seen yet. -/
def uns (m : Nat) (seen : Nat → Bool) : Nat := (List.range m).countP fun x => !seen x
theorem countP_lt {p q : Nat → Bool} : ∀ {l : List Nat} {a : Nat}, (∀ x ∈ l, q x = true → p x = true) → a ∈ l → p a = true → q a = false → l.countP q < l.countP p := by
  intro l
  induction l with
  | nil => intro a _ h; simp at h
  | cons x l ih =>
    intro a h ha hp hq
    simp only [List.countP_cons]
    rcases List.mem_cons.1 ha with rfl | ha
    · rw [hp, hq]
      have : l.countP q ≤ l.countP p := List.countP_mono_left fun y hy => h y (List.mem_cons_of_mem _ hy)
      simp; omega
    · have := ih (fun y hy => h y (List.mem_cons_of_mem _ hy)) ha hp hq
      have h2 := h x (by simp)
      rcases hqx : q x with _ | _
      · simp; omega
      · rw [h2 hqx]; simp; omega
theorem uns_upd {seen : Nat → Bool} {v : Nat} (hv : v < m) (h : seen v = false) : uns m (upd seen v) < uns m seen := by
  refine countP_lt (a := v) (fun x _ hx => ?_) (by simpa using hv) (by simp [h]) (by simp [upd])
  simp [upd] at hx ⊢
  exact hx.1
theorem uns_le (seen : Nat → Bool) : uns m seen ≤ m := by
  have := List.countP_le_length (p := fun x => !seen x) (l := List.range m)
  simpa [uns] using this

/-- The walks of the first pass: what was left of them, all things below k among it. -/
structure Fst (E : Nat → Nat → Prop) (m k : Nat) (L : List Nat) (seen : Nat → Bool) : Prop where
  nd : L.Nodup
  inn : ∀ x, x ∈ L → x < m
  see : ∀ x, seen x = decide (x ∈ L)
  shut : ∀ u, u ∈ L → ∀ y, E u y → y ∈ L
  ord : Ord E (fun _ => False) L
  upto : ∀ j, j < k → j ∈ L

theorem Fst.start : Fst E m 0 [] (fun _ => false) where
  nd := by simp
  inn := by simp
  see := by simp
  shut := by simp
  ord := trivial
  upto := by simp
theorem Fst.pass {k : Nat} {L : List Nat} {seen : Nat → Bool} (h : Fst E m k L seen) (hk : seen k = true) : Fst E m (k + 1) L seen :=
  ⟨h.nd, h.inn, h.see, h.shut, h.ord, fun j hj => by
    rcases Nat.lt_or_ge j k with hl | hl
    · exact h.upto j hl
    · obtain rfl : j = k := by omega
      rw [h.see] at hk; exact of_decide_eq_true hk⟩
theorem Fst.shut0 {k : Nat} {L : List Nat} {seen : Nat → Bool} (h : Fst E m k L seen) : ∀ x y, seen x = true → E x y → seen y = true := fun x y hx e => by
  rw [h.see] at hx ⊢
  exact decide_eq_true (h.shut x (of_decide_eq_true hx) y e)
theorem Fst.more {k : Nat} {L l : List Nat} {seen : Nat → Bool} (h : Fst E m k L seen) (hl : Lft E m seen k l) : Fst E m (k + 1) (L ++ l) (fun x => seen x || decide (x ∈ l)) := by
  have hin : ∀ x, x ∈ l → x ∉ L := fun x hx hL => by
    have := (hl.inn x hx).1
    rw [h.see, decide_eq_true hL] at this
    cases this
  refine ⟨?_, fun x hx => ?_, fun x => ?_, fun u hu y e => ?_, ?_, fun j hj => ?_⟩
  · rw [List.nodup_append]
    exact ⟨h.nd, hl.nd, fun a ha b hb => by rintro rfl; exact hin a hb ha⟩
  · rcases List.mem_append.1 hx with hx | hx
    · exact h.inn x hx
    · exact (hl.inn x hx).2.1
  · rw [h.see, Bool.eq_iff_iff]; simp
  · rcases List.mem_append.1 hu with hu | hu
    · exact List.mem_append_left _ (h.shut u hu y e)
    · rcases hl.all y ((hl.inn u hu).2.2.step e) with hy | hy
      · exact List.mem_append_right _ hy
      · rw [h.see] at hy; exact List.mem_append_left _ (of_decide_eq_true hy)
  · rw [ord_append]
    refine ⟨h.ord, hl.ord.congr fun x => ?_⟩
    rw [h.see]; simp
  · rcases Nat.lt_or_ge j k with hk | hk
    · exact List.mem_append_left _ (h.upto j hk)
    · obtain rfl : j = k := by omega
      rcases hl.all j .refl with hy | hy
      · exact List.mem_append_right _ hy
      · rw [h.see] at hy; exact List.mem_append_left _ (of_decide_eq_true hy)

open Classical in
/-- Whether a thing reaches another one, as a bool. -/
noncomputable def rb (E : Nat → Nat → Prop) (a b : Nat) : Bool := decide (Rt E a b)
theorem rb_iff {a b : Nat} : rb E a b = true ↔ Rt E a b := by simp [rb]

/-- The component of a thing, rising. -/
noncomputable def cmp (E : Nat → Nat → Prop) (m t : Nat) : List Nat := (List.range m).filter fun x => rb E t x && rb E x t
theorem mem_cmp {t x : Nat} : x ∈ cmp E m t ↔ x < m ∧ Rt E t x ∧ Rt E x t := by simp [cmp, rb_iff]
theorem cmp_self {t : Nat} (h : t < m) : t ∈ cmp E m t := mem_cmp.2 ⟨h, .refl, .refl⟩
theorem cmp_same {s t : Nat} (h : s ∈ cmp E m t) : cmp E m s = cmp E m t := by
  have h := mem_cmp.1 h
  unfold cmp
  refine List.filter_congr fun x _ => ?_
  rw [Bool.eq_iff_iff]
  simp only [Bool.and_eq_true, rb_iff]
  exact ⟨fun k => ⟨h.2.1.trans k.1, k.2.trans h.2.2⟩, fun k => ⟨h.2.2.trans k.1, k.2.trans h.2.1⟩⟩
theorem range_lt (m : Nat) : (List.range m).Pairwise (· < ·) := List.pairwise_lt_range
theorem cmp_rises (t : Nat) : (cmp E m t).Pairwise (· < ·) := (range_lt m).filter _

/-- Two rising lists with the same members are the same. -/
theorem rises_same : ∀ {l r : List Nat}, l.Pairwise (· < ·) → r.Pairwise (· < ·) → (∀ x, x ∈ l ↔ x ∈ r) → l = r := by
  intro l
  induction l with
  | nil =>
    intro r _ _ h
    cases r with
    | nil => rfl
    | cons y r => have := (h y).2 (by simp); simp at this
  | cons x l ih =>
    intro r hl hr h
    cases r with
    | nil => have := (h x).1 (by simp); simp at this
    | cons y r =>
      rw [List.pairwise_cons] at hl hr
      have e : x = y := by
        rcases List.mem_cons.1 ((h x).1 (by simp)) with e | hx
        · exact e
        · rcases List.mem_cons.1 ((h y).2 (by simp)) with e | hy
          · exact e.symm
          · have := hr.1 x hx; have := hl.1 y hy; omega
      subst e
      congr 1
      refine ih hl.2 hr.2 fun z => ⟨fun hz => ?_, fun hz => ?_⟩
      · rcases List.mem_cons.1 ((h z).1 (List.mem_cons_of_mem _ hz)) with e | k
        · have := hl.1 z hz; omega
        · exact k
      · rcases List.mem_cons.1 ((h z).2 (List.mem_cons_of_mem _ hz)) with e | k
        · have := hr.1 z hz; omega
        · exact k

/-- The walks of the second pass, against the edges: the components ps of B, which is what was left last. -/
structure Snd (E : Nat → Nat → Prop) (m : Nat) (B : List Nat) (ps : List (List Nat)) (seen : Nat → Bool) : Prop where
  see : ∀ x, seen x = true ↔ ∃ p, p ∈ ps ∧ x ∈ p
  shut : ∀ x y, seen x = true → E y x → seen y = true
  isc : ∀ p, p ∈ ps → ∃ t, t < m ∧ p = cmp E m t
  dis : ps.Pairwise fun p q => ∀ x, x ∈ p → x ∉ q
  got : ∀ x, x ∈ B → seen x = true

theorem Snd.start : Snd E m [] [] (fun _ => false) := ⟨by simp, by simp, by simp, by simp, by simp⟩
theorem Snd.pass {B : List Nat} {ps : List (List Nat)} {seen : Nat → Bool} {t : Nat} (h : Snd E m B ps seen) (ht : seen t = true) : Snd E m (t :: B) ps seen :=
  ⟨h.see, h.shut, h.isc, h.dis, fun x hx => by
    rcases List.mem_cons.1 hx with rfl | hx
    · exact ht
    · exact h.got x hx⟩

/-- What the walk against the edges finds is the component, in some order. -/
theorem Snd.finds {A B : List Nat} {t k : Nat} {ps : List (List Nat)} {seen sf : Nat → Bool} (hE : ∀ x y, E x y → x < m ∧ y < m) (h : Snd E m B ps seen) (hf : Fst E m k (A ++ t :: B) sf) (hall : ∀ x, x < m → x ∈ A ++ t :: B) (ht : seen t = false)
    {l : List Nat} (hl : Lft (fun x y => E y x) m seen t l) : (∀ x, x ∈ l ↔ x ∈ cmp E m t) ∧ (∀ x, x ∈ l → seen x = false) := by
  have htm : t < m := hf.inn t (by simp)
  have hroll : ∀ x z, seen x = true → Rt E z x → seen z = true := fun x z hx hz => hz.turn.stays (fun z => seen z = true) hx fun a b ha e => h.shut a b ha e
  have hnd := hf.nd
  rw [List.nodup_append] at hnd
  have hndB := List.nodup_cons.1 hnd.2.1
  have key : ∀ z, z < m → Rt E z t → seen z = false → Rt E t z := fun z hzm hz hs => by
    apply Classical.byContradiction
    intro hno
    have hzt : z ≠ t := fun e => hno (e ▸ .refl)
    have hin : ∀ s, s < m → seen s = false → s ≠ t → s ∈ A := fun s hsm hss hst => by
      rcases List.mem_append.1 (hall s hsm) with hA | hA
      · exact hA
      · rcases List.mem_cons.1 hA with e | hB
        · exact absurd e hst
        · rw [h.got s hB] at hss; cases hss
    have hoA : Ord E (fun _ => False) A := (ord_append.1 hf.ord).1
    refine ord_key (t := t) hoA (fun h => h) (fun hA => hnd.2.2 t hA t (by simp) rfl) (hin z hzm hs hzt) hz fun s a b => .inr ?_
    refine hin s (a.lt hE hzm) ?_ ?_
    · rcases hss : seen s with _ | _
      · rfl
      · rw [hroll s z hss a] at hs; cases hs
    · rintro rfl
      exact hno b
  refine ⟨fun x => ⟨fun hx => ?_, fun hx => ?_⟩, fun x hx => (hl.inn x hx).1⟩
  · obtain ⟨a, b, c⟩ := hl.inn x hx
    have hxt : Rt E x t := c.back
    exact mem_cmp.2 ⟨b, key x b hxt a, hxt⟩
  · obtain ⟨a, b, c⟩ := mem_cmp.1 hx
    rcases hl.all x c.turn with k | k
    · exact k
    · rw [hroll x t k b] at ht; cases ht

theorem Snd.more {A B : List Nat} {t k : Nat} {ps : List (List Nat)} {seen sf : Nat → Bool} (hE : ∀ x y, E x y → x < m ∧ y < m) (h : Snd E m B ps seen) (hf : Fst E m k (A ++ t :: B) sf) (hall : ∀ x, x < m → x ∈ A ++ t :: B) (ht : seen t = false)
    {l : List Nat} (hl : Lft (fun x y => E y x) m seen t l) : Snd E m (t :: B) (ps ++ [cmp E m t]) (fun x => seen x || decide (x ∈ l)) := by
  have hk := h.finds hE hf hall ht hl
  have htm : t < m := hf.inn t (by simp)
  have hroll : ∀ x z, seen x = true → Rt E z x → seen z = true := fun x z hx hz => hz.turn.stays (fun z => seen z = true) hx fun a b ha e => h.shut a b ha e
  have hsee : ∀ x, (seen x || decide (x ∈ l)) = true ↔ seen x = true ∨ x ∈ cmp E m t := fun x => by
    rw [← hk.1 x]; simp
  refine ⟨fun x => ?_, fun x y hx e => ?_, fun p hp => ?_, ?_, fun x hx => ?_⟩
  · rw [hsee, h.see]
    constructor
    · rintro (⟨p, hp, hx⟩ | hx)
      · exact ⟨p, List.mem_append_left _ hp, hx⟩
      · exact ⟨_, List.mem_append_right _ (by simp), hx⟩
    · rintro ⟨p, hp, hx⟩
      rcases List.mem_append.1 hp with hp | hp
      · exact .inl ⟨p, hp, hx⟩
      · obtain rfl : p = cmp E m t := by simpa using hp
        exact .inr hx
  · rw [hsee] at hx ⊢
    rcases hx with hx | hx
    · exact .inl (h.shut x y hx e)
    · have hx := mem_cmp.1 hx
      rcases hl.all y (((Rt.one e).trans hx.2.2).turn) with k | k
      · exact .inr ((hk.1 y).1 k)
      · exact .inl k
  · rcases List.mem_append.1 hp with hp | hp
    · exact h.isc p hp
    · obtain rfl : p = cmp E m t := by simpa using hp
      exact ⟨t, htm, rfl⟩
  · rw [List.pairwise_append]
    refine ⟨h.dis, by simp, fun p hp q hq x hx => ?_⟩
    obtain rfl : q = cmp E m t := by simpa using hq
    intro hxt
    have hx2 := mem_cmp.1 hxt
    have := hroll x t ((h.see x).2 ⟨p, hp, hx⟩) hx2.2.1
    rw [this] at ht; cases ht
  · rw [hsee]
    rcases List.mem_cons.1 hx with rfl | hx
    · exact .inr (cmp_self htm)
    · exact .inl (h.got x hx)

/-- Nothing it reaches is left over, but what reaches it. -/
def Fr (E : Nat → Nat → Prop) (m : Nat) (T : Nat → Prop) (k : Nat) : Prop := ∀ j, j < m → Rt E k j → Rt E j k ∨ T j
/-- The least thing that may be told next. -/
def Lf (E : Nat → Nat → Prop) (m : Nat) (T : Nat → Prop) (k : Nat) : Prop := k < m ∧ ¬ T k ∧ Fr E m T k ∧ ∀ j, j < k → ¬ T j → ¬ Fr E m T j
/-- The components in the order in which they are told, T having been told. -/
inductive Out (E : Nat → Nat → Prop) (m : Nat) : (Nat → Prop) → List (List Nat) → Prop
  | done {T : Nat → Prop} : (∀ k, k < m → T k) → Out E m T []
  | step {T : Nat → Prop} {k : Nat} {r : List (List Nat)} : Lf E m T k → Out E m (fun x => T x ∨ x ∈ cmp E m k) r → Out E m T (cmp E m k :: r)

theorem Fr.congr {T U : Nat → Prop} {k : Nat} (h : ∀ x, x < m → (T x ↔ U x)) : Fr E m T k ↔ Fr E m U k :=
  ⟨fun f j hj r => (f j hj r).imp_right (h j hj).1, fun f j hj r => (f j hj r).imp_right (h j hj).2⟩
theorem Lf.congr {T U : Nat → Prop} {k : Nat} (h : ∀ x, x < m → (T x ↔ U x)) (hl : Lf E m T k) : Lf E m U k :=
  ⟨hl.1, fun t => hl.2.1 ((h k hl.1).2 t), (Fr.congr h).1 hl.2.2.1, fun j hj hn f => hl.2.2.2 j hj (fun t => hn ((h j (Nat.lt_trans hj hl.1)).1 t)) ((Fr.congr h).2 f)⟩
theorem Out.congr {T : Nat → Prop} {r : List (List Nat)} (ho : Out E m T r) : ∀ {U : Nat → Prop}, (∀ x, x < m → (T x ↔ U x)) → Out E m U r := by
  induction ho with
  | done h => intro U hU; exact .done fun k hk => (hU k hk).1 (h k hk)
  | step hl _ ih => intro U hU; exact .step (hl.congr hU) (ih fun x hx => or_congr (hU x hx) Iff.rfl)
theorem Lf.one {T : Nat → Prop} {k j : Nat} (h : Lf E m T k) (g : Lf E m T j) : k = j := by
  rcases Nat.lt_trichotomy k j with hl | rfl | hl
  · exact absurd h.2.2.1 (g.2.2.2 k hl h.2.1)
  · rfl
  · exact absurd g.2.2.1 (h.2.2.2 j hl g.2.1)
theorem Out.one {T : Nat → Prop} {a : List (List Nat)} (h : Out E m T a) : ∀ {b : List (List Nat)}, Out E m T b → a = b := by
  induction h with
  | done h =>
    intro b g
    cases g with
    | done _ => rfl
    | step hl _ => exact absurd (h _ hl.1) hl.2.1
  | step hl _ ih =>
    intro b g
    cases g with
    | done h => exact absurd (h _ hl.1) hl.2.1
    | step gl gr =>
      obtain rfl := hl.one gl
      rw [ih gr]

/-- What is told is closed: all that it waits for was told. -/
def Cs (E : Nat → Nat → Prop) (T : Nat → Prop) : Prop := ∀ x y, T x → E x y → T y
theorem Cs.rt {T : Nat → Prop} (h : Cs E T) {x y : Nat} (hx : T x) (r : Rt E x y) : T y := r.stays T hx h
theorem Cs.add {T : Nat → Prop} {k : Nat} (hE : ∀ x y, E x y → x < m ∧ y < m) (h : Cs E T) (hf : Fr E m T k) : Cs E (fun x => T x ∨ x ∈ cmp E m k) := fun x y hx e => by
  rcases hx with hx | hx
  · exact .inl (h x y hx e)
  · have hx := mem_cmp.1 hx
    rcases hf y (hE x y e).2 (hx.2.1.step e) with k1 | k1
    · exact .inr (mem_cmp.2 ⟨(hE x y e).2, hx.2.1.step e, k1⟩)
    · exact .inl k1

/-- So far these were told, and the rest will be told so. -/
structure Sf (E : Nat → Nat → Prop) (m : Nat) (T : Nat → Prop) (out : List (List Nat)) : Prop where
  shut : Cs E T
  go : ∀ r, Out E m T r → Out E m (fun _ => False) (out ++ r)
theorem Sf.start : Sf E m (fun _ => False) [] := ⟨fun _ _ h => h.elim, fun r h => by simpa using h⟩
theorem Sf.more {T : Nat → Prop} {out : List (List Nat)} {k : Nat} (hE : ∀ x y, E x y → x < m ∧ y < m) (h : Sf E m T out) (hl : Lf E m T k) : Sf E m (fun x => T x ∨ x ∈ cmp E m k) (out ++ [cmp E m k]) :=
  ⟨h.shut.add hE hl.2.2.1, fun r hr => by rw [List.append_assoc]; exact h.go _ (.step hl hr)⟩
theorem Sf.end_ {T : Nat → Prop} {out : List (List Nat)} (h : Sf E m T out) (ha : ∀ k, k < m → T k) : Out E m (fun _ => False) out := by
  have := h.go [] (.done ha)
  simpa using this
theorem Sf.congr {T U : Nat → Prop} {out : List (List Nat)} (h : Sf E m T out) (hU : ∀ x, T x ↔ U x) : Sf E m U out := by
  have : T = U := funext fun x => propext (hU x)
  rwa [← this]

theorem least {P : Nat → Prop} : ∀ {k : Nat}, P k → ∃ j, P j ∧ j ≤ k ∧ ∀ i, i < j → ¬ P i := by
  intro k
  induction k using Nat.strongRecOn with
  | ind k ih =>
    intro h
    by_cases hx : ∃ i, i < k ∧ P i
    · obtain ⟨i, hi, hp⟩ := hx
      obtain ⟨j, a, b, c⟩ := ih i hi hp
      exact ⟨j, a, by omega, c⟩
    · exact ⟨k, h, Nat.le_refl _, fun i hi hp => hx ⟨i, hi, hp⟩⟩

/-- As long as one is left, one may be told. -/
theorem some_free {T : Nat → Prop} : ∀ (c k : Nat), (List.range m).countP (fun x => rb E k x) = c → k < m → ¬ T k → ∃ j, j < m ∧ ¬ T j ∧ Fr E m T j := by
  intro c
  induction c using Nat.strongRecOn with
  | ind c ih =>
    intro k hc hk ht
    by_cases hf : Fr E m T k
    · exact ⟨k, hk, ht, hf⟩
    · have : ∃ j, j < m ∧ Rt E k j ∧ ¬ Rt E j k ∧ ¬ T j := by
        apply Classical.byContradiction
        intro hno
        refine hf fun j hj hr => ?_
        by_cases h1 : Rt E j k
        · exact .inl h1
        · by_cases h2 : T j
          · exact .inr h2
          · exact absurd ⟨j, hj, hr, h1, h2⟩ hno
      obtain ⟨j, hj, hr, hn, htj⟩ := this
      refine ih ((List.range m).countP fun x => rb E j x) ?_ j rfl hj htj
      rw [← hc]
      refine countP_lt (a := k) (fun x _ hx => ?_) (by simpa using hk) (rb_iff.2 .refl) ?_
      · exact rb_iff.2 (hr.trans (rb_iff.1 hx))
      · rcases hb : rb E j k with _ | _
        · rfl
        · exact absurd (rb_iff.1 hb) hn
theorem some_least {T : Nat → Prop} {k : Nat} (hk : k < m) (ht : ¬ T k) : ∃ j, Lf E m T j := by
  obtain ⟨j, hj, htj, hf⟩ := some_free (E := E) (T := T) _ k rfl hk ht
  obtain ⟨i, ⟨hi, hti, hfi⟩, _, hl⟩ := least (P := fun i => i < m ∧ ¬ T i ∧ Fr E m T i) ⟨hj, htj, hf⟩
  exact ⟨i, hi, hti, hfi, fun n hn htn hfn => hl n hn ⟨by omega, htn, hfn⟩⟩

/-- The first thing of a list. -/
def hd (p : List Nat) : Nat := p.headD 0
theorem hd_mem {p : List Nat} {x : Nat} (h : x ∈ p) : hd p ∈ p := by
  cases p with
  | nil => simp at h
  | cons y p => simp [hd]
theorem hd_cmp {t : Nat} (h : t < m) : hd (cmp E m t) ∈ cmp E m t := hd_mem (cmp_self h)
theorem cmp_hd {t : Nat} (h : t < m) : cmp E m (hd (cmp E m t)) = cmp E m t := cmp_same (hd_cmp h)
theorem hd_le {p : List Nat} {x : Nat} (hp : p.Pairwise (· < ·)) (h : x ∈ p) : hd p ≤ x := by
  cases p with
  | nil => simp at h
  | cons y p =>
    rw [List.pairwise_cons] at hp
    rcases List.mem_cons.1 h with rfl | h
    · simp [hd]
    · have := hp.1 x h; simp [hd]; omega
theorem same_hd {s t : Nat} (hs : s < m) (ht : t < m) (h : hd (cmp E m s) = hd (cmp E m t)) : cmp E m s = cmp E m t := by
  rw [← cmp_hd hs, ← cmp_hd ht, h]

/-- The program's test: all that the part waits for was told, or is of it. -/
def Pf (E : Nat → Nat → Prop) (T : Nat → Prop) (p : List Nat) : Prop := ∀ x, x ∈ p → ∀ y, E x y → T y ∨ y ∈ p
theorem pf_iff {T : Nat → Prop} {k : Nat} (hE : ∀ x y, E x y → x < m ∧ y < m) (hc : Cs E T) (hk : k < m) : Pf E T (cmp E m k) ↔ Fr E m T k := by
  constructor
  · intro h j hj hr
    have : T j ∨ j ∈ cmp E m k := hr.stays (fun j => T j ∨ j ∈ cmp E m k) (.inr (cmp_self hk)) fun x y hx e => by
      rcases hx with hx | hx
      · exact .inl (hc x y hx e)
      · exact h x hx y e
    rcases this with h1 | h1
    · exact .inr h1
    · exact .inl (mem_cmp.1 h1).2.2
  · intro h x hx y e
    exact (hc.add hE h) x y (.inr hx) e

/-- The parts that are left, T having been told: by their first things. -/
structure Rem (E : Nat → Nat → Prop) (m : Nat) (T : Nat → Prop) (ps : List (List Nat)) : Prop where
  isc : ∀ p, p ∈ ps → ∃ h, h < m ∧ ¬ T h ∧ p = cmp E m h
  all : ∀ x, x < m → ¬ T x → ∃ p, p ∈ ps ∧ x ∈ p
  inc : ps.Pairwise fun p q => hd p < hd q
theorem Rem.unt {T : Nat → Prop} {ps : List (List Nat)} (h : Rem E m T ps) (hc : Cs E T) {p : List Nat} (hp : p ∈ ps) {x : Nat} (hx : x ∈ p) : ¬ T x := by
  obtain ⟨k, hk, ht, rfl⟩ := h.isc p hp
  exact fun hT => ht (hc.rt hT (mem_cmp.1 hx).2.2)
theorem Rem.free {T : Nat → Prop} {ps : List (List Nat)} (hE : ∀ x y, E x y → x < m ∧ y < m) (h : Rem E m T ps) (hc : Cs E T) (hne : ps ≠ []) : ∃ p, p ∈ ps ∧ Pf E T p := by
  cases ps with
  | nil => exact absurd rfl hne
  | cons p ps =>
    obtain ⟨k, hk, ht, rfl⟩ := h.isc p (by simp)
    obtain ⟨j, hj, htj, hf⟩ := some_free (E := E) (T := T) _ k rfl hk ht
    obtain ⟨q, hq, hjq⟩ := h.all j hj htj
    obtain ⟨i, hi, _, rfl⟩ := h.isc q hq
    refine ⟨_, hq, ?_⟩
    rw [← cmp_same hjq]
    exact (pf_iff hE hc hj).2 hf
theorem Rem.step {T : Nat → Prop} {A C : List (List Nat)} {p : List Nat} (hE : ∀ x y, E x y → x < m ∧ y < m) (h : Rem E m T (A ++ p :: C)) (hc : Cs E T) (hp : Pf E T p) (hA : ∀ q, q ∈ A → ¬ Pf E T q) :
    Lf E m T (hd p) ∧ cmp E m (hd p) = p ∧ Rem E m (fun x => T x ∨ x ∈ p) (A ++ C) := by
  have hpm : p ∈ A ++ p :: C := by simp
  obtain ⟨k, hk, ht, hpk⟩ := h.isc p hpm
  have hhm : hd p ∈ p := by rw [hpk]; exact hd_cmp hk
  have hhd : hd p < m := by rw [hpk] at hhm; have := mem_cmp.1 hhm; rw [hpk]; exact this.1
  have hcm : cmp E m (hd p) = p := by rw [hpk]; exact cmp_hd hk
  have hinc := List.pairwise_append.1 h.inc
  have hincC := List.pairwise_cons.1 hinc.2.1
  refine ⟨⟨hhd, h.unt hc hpm hhm, (pf_iff hE hc hhd).1 (by rw [hcm]; exact hp), fun j hj htj hfj => ?_⟩, hcm, fun q hq => ?_, fun x hx hT => ?_, ?_⟩
  · obtain ⟨q, hq, hjq⟩ := h.all j (by omega) htj
    obtain ⟨i, hi, _, hqi⟩ := h.isc q hq
    have hqj : cmp E m j = q := by rw [hqi]; exact cmp_same (hqi ▸ hjq)
    have hle : hd q ≤ j := hd_le (by rw [hqi]; exact cmp_rises i) hjq
    have hpf : Pf E T q := hqj ▸ (pf_iff hE hc (by omega)).2 hfj
    rcases List.mem_append.1 hq with hq | hq
    · exact hA q hq hpf
    · rcases List.mem_cons.1 hq with rfl | hq
      · omega
      · have := hincC.1 q hq; omega
  · have hq' : q ∈ A ++ p :: C := by
      rcases List.mem_append.1 hq with hq | hq
      · exact List.mem_append_left _ hq
      · exact List.mem_append_right _ (List.mem_cons_of_mem _ hq)
    obtain ⟨i, hi, hti, hqi⟩ := h.isc q hq'
    refine ⟨i, hi, ?_, hqi⟩
    rintro (k1 | k1)
    · exact hti k1
    · have hqp : q = p := by rw [hqi, hpk]; exact cmp_same (hpk ▸ k1)
      rcases List.mem_append.1 hq with hq | hq
      · have := hinc.2.2 q hq p (by simp); rw [hqp] at this; omega
      · have := hincC.1 q hq; rw [hqp] at this; omega
  · obtain ⟨q, hq, hxq⟩ := h.all x hx fun t => hT (.inl t)
    rcases List.mem_append.1 hq with hq | hq
    · exact ⟨q, List.mem_append_left _ hq, hxq⟩
    · rcases List.mem_cons.1 hq with rfl | hq
      · exact absurd (.inr hxq) hT
      · exact ⟨q, List.mem_append_right _ hq, hxq⟩
  · rw [List.pairwise_append]
    exact ⟨hinc.1, hincC.2, fun a ha b hb => hinc.2.2 a ha b (List.mem_cons_of_mem _ hb)⟩

/-- The components of the second pass, sorted by their first things, are what is left at first. -/
theorem Snd.rem {L : List Nat} {ps qs : List (List Nat)} {seen : Nat → Bool} (h : Snd E m L ps seen) (hall : ∀ x, x < m → x ∈ L) (hp : qs.Perm ps) (hs : qs.Pairwise fun p q => hd p ≤ hd q) : Rem E m (fun _ => False) qs := by
  have hdis : qs.Pairwise fun p q => ∀ x, x ∈ p → x ∉ q := (List.Perm.pairwise_iff (fun {p q} k x hq hp => k x hp hq) hp).2 h.dis
  refine ⟨fun p hq => ?_, fun x hx _ => ?_, ?_⟩
  · obtain ⟨t, ht, e⟩ := h.isc p (hp.mem_iff.1 hq)
    exact ⟨t, ht, fun f => f, e⟩
  · obtain ⟨p, hq, hxp⟩ := (h.see x).1 (h.got x (hall x hx))
    exact ⟨p, hp.mem_iff.2 hq, hxp⟩
  · refine (hs.and hdis).imp_of_mem fun {p q} hpm hqm k => ?_
    obtain ⟨t, ht, e⟩ := h.isc p (hp.mem_iff.1 hpm)
    obtain ⟨u, hu, f⟩ := h.isc q (hp.mem_iff.1 hqm)
    have h1 : hd p ∈ p := by rw [e]; exact hd_cmp ht
    have h2 : hd q ∈ q := by rw [f]; exact hd_cmp hu
    have hne : hd p ≠ hd q := fun g => k.2 _ h1 (g ▸ h2)
    have := k.1
    omega

/-- Things as integers. -/
def zs (l : List Nat) : List Int := l.map (fun (x : Nat) => (x : Int))
theorem zs_len (l : List Nat) : (zs l).length = l.length := by simp [zs]
/-- Two strictly rising lists of integers with the same members are the same. -/
theorem rises_sameI : ∀ {l r : List Int}, l.Pairwise (· < ·) → r.Pairwise (· < ·) → (∀ x, x ∈ l ↔ x ∈ r) → l = r := by
  intro l
  induction l with
  | nil =>
    intro r _ _ h
    cases r with
    | nil => rfl
    | cons y r => have := (h y).2 (by simp); simp at this
  | cons x l ih =>
    intro r hl hr h
    cases r with
    | nil => have := (h x).1 (by simp); simp at this
    | cons y r =>
      rw [List.pairwise_cons] at hl hr
      have e : x = y := by
        rcases List.mem_cons.1 ((h x).1 (by simp)) with e | hx
        · exact e
        · rcases List.mem_cons.1 ((h y).2 (by simp)) with e | hy
          · exact e.symm
          · have := hr.1 x hx; have := hl.1 y hy; omega
      subst e
      congr 1
      refine ih hl.2 hr.2 fun z => ⟨fun hz => ?_, fun hz => ?_⟩
      · rcases List.mem_cons.1 ((h z).1 (List.mem_cons_of_mem _ hz)) with e | k
        · have := hl.1 z hz; omega
        · exact k
      · rcases List.mem_cons.1 ((h z).2 (List.mem_cons_of_mem _ hz)) with e | k
        · have := hr.1 z hz; omega
        · exact k
/-- What sorting makes of things, each told once. -/
theorem sorted_zs {l c : List Nat} (hl : l.Nodup) (hc : c.Pairwise (· < ·)) (h : ∀ x, x ∈ l ↔ x ∈ c) : (zs l).mergeSort (fun x y => decide (x ≤ y)) = zs c := by
  have hp := List.mergeSort_perm (zs l) (fun x y => decide (x ≤ y))
  have hn : ((zs l).mergeSort (fun x y => decide (x ≤ y))).Nodup := by
    rw [hp.nodup_iff]
    unfold zs
    rw [List.Nodup, List.pairwise_map]
    exact List.Pairwise.imp (fun hne e => hne (by omega)) hl
  have hs := List.pairwise_mergeSort (le := fun (x y : Int) => decide (x ≤ y)) (fun a b c h1 h2 => by simp at *; omega) (fun a b => by simp; omega) (zs l)
  refine rises_sameI ?_ ?_ fun x => ?_
  · exact List.Pairwise.imp₂ (fun {a b} h1 h2 => by simp at h1; omega) hs hn
  · unfold zs
    rw [List.pairwise_map]
    exact List.Pairwise.imp (fun h => by omega) hc
  · rw [hp.mem_iff]
    simp [zs, h]
/-- Lists of the same things, each told once, are of one length. -/
theorem len_same {l c : List Nat} (hl : l.Nodup) (hc : c.Nodup) (h : ∀ x, x ∈ l ↔ x ∈ c) : l.length = c.length :=
  Nat.le_antisymm (hl.length_le_of_subset fun x hx => (h x).1 hx) (hc.length_le_of_subset fun x hx => (h x).2 hx)
theorem rises_nodup {c : List Nat} (hc : c.Pairwise (· < ·)) : c.Nodup := List.Pairwise.imp (fun h => by omega) hc

end Go.Proofs.YtgpciipemgljcaaGreat.Gp

/-
  Words for memory that the walks of package graph use: a row of the call's own, cell by cell; a graph; slices of integers, of edges and of lists that read as lists; what a call may turn. No program's function is walked here. No conditions.
-/
namespace Go.Proofs.YtgpciipemgljcaaGreat.Gp
open Go.RowKit
set_option linter.unusedVariables false

/-- A row of n cells, told by a function. -/
def tab (f : Nat → Value) (n : Nat) : Array Value := ((List.range n).map f).toArray
theorem tab_get (f : Nat → Value) (n i : Nat) : (tab f n)[i]? = if i < n then some (f i) else none := by
  simp only [tab, List.getElem?_toArray, List.getElem?_map]
  split
  · rename_i h; simp [h]
  · rename_i h; simp [h]
theorem tab_size (f : Nat → Value) (n : Nat) : (tab f n).size = n := by simp [tab]
theorem tab_ext {f : Nat → Value} {n : Nat} {a : Array Value} (hs : a.size = n) (h : ∀ i, i < n → a[i]? = some (f i)) : a = tab f n := by
  apply Array.ext_getElem?
  intro i
  rw [tab_get]
  split
  · rename_i hi; exact h i hi
  · rename_i hi; exact Array.getElem?_eq_none (by omega)
theorem tab_set (f : Nat → Value) (n i : Nat) (v : Value) : (tab f n).setIfInBounds i v = tab (fun x => if x = i then v else f x) n := by
  refine tab_ext (by simp [tab_size]) fun j hj => ?_
  rw [Array.getElem?_setIfInBounds, tab_get, if_pos hj, tab_size]
  by_cases h : i = j
  · subst h; simp [hj]
  · rw [if_neg h, if_neg (fun e => h e.symm)]
theorem tab_congr {f g : Nat → Value} {n : Nat} (h : ∀ i, i < n → f i = g i) : tab f n = tab g n :=
  tab_ext (tab_size f n) fun i hi => by rw [tab_get, if_pos hi, h i hi]

/-- Block b is a row of n cells of type t. -/
def Tb (w : World) (b : Nat) (t : TypeId) (f : Nat → Value) (n : Nat) : Prop := w.heap[b]? = some (.cells (tab f n) t (0, 0))
section
variable {w w' : World} {b : Nat} {t : TypeId} {f : Nat → Value} {n : Nat}
theorem Tb.cell (h : Tb w b t f n) {i : Nat} (hi : i < n) : w.cell? ⟨b, i, none⟩ = some (f i) := by rw [cell_of_row w b i _ t _ h, tab_get, if_pos hi]
theorem Tb.free (h : Tb w b t f n) (i : Nat) : w.frozen? ⟨b, i, none⟩ = false := Lib.frozen_of_heap h i
theorem Tb.lt (h : Tb w b t f n) : b < w.heap.size := lt_of_block h
theorem Tb.old (h : Tb w b t f n) (o : Obj) : Tb (w.alloc o) b t f n := (heap_alloc_old w o h.lt).trans h
theorem Tb.other (h : Tb w b t f n) {p : Addr} (hne : b ≠ p.block) (v : Value) : Tb (w.setCell p v) b t f n := (Below.heap_setCell w p v b hne).trans h
theorem Tb.same (h : Tb w b t f n) (e : w'.heap[b]? = w.heap[b]?) : Tb w' b t f n := e.trans h
theorem Tb.on (h : Tb w b t f n) {D : Nat} (hb : Below D w w') (hlt : b < D) : Tb w' b t f n := (hb.block b hlt).trans h
theorem Tb.set (h : Tb w b t f n) (i : Nat) (v : Value) : Tb (w.setCell ⟨b, i, none⟩ v) b t (fun x => if x = i then v else f x) n := by
  have := heap_setCell_same w b i _ t v h
  unfold Tb
  rw [this, tab_set]
theorem Tb.congr (h : Tb w b t f n) {g : Nat → Value} (e : ∀ i, i < n → f i = g i) : Tb w b t g n := by
  unfold Tb at *
  rw [h, tab_congr e]
theorem tb_made {base : Nat} {z : Value} (h : w.ownsRow base t 1 (.slice (some ⟨b, 0, none⟩) n n) n (madeCells z.cells (n * 1)).toList) (hz : z.cells = #[z]) : Tb w b t (fun _ => z) n := by
  rcases h.2 with ⟨h0, _⟩ | ⟨g', cap, cur, hv, _, hh, _, _, hcs, ht⟩
  · cases h0
  · simp only [Value.slice.injEq, Option.some.injEq, Addr.mk.injEq] at hv
    obtain ⟨⟨rfl, _⟩, _, rfl⟩ := hv
    rw [List.take_of_length_le (by simp [hcs])] at ht
    unfold Tb
    rw [hh]
    congr 2
    rw [Nat.mul_one] at hcs ht
    refine tab_ext hcs fun i hi => ?_
    rw [← Array.getElem?_toList, ht, hz, toList_madeCells_one, List.getElem?_replicate, if_pos hi]
end
theorem info3 : (Tryz.prog.info? 3).map (fun i => (i.zero, i.size, i.bytes)) = some (some (.int .i64 0), 1, 8) := by kernel_rfl
theorem info4 : (Tryz.prog.info? 4).map (fun i => (i.zero, i.size, i.bytes)) = some (some (.bool false), 1, 1) := by kernel_rfl
theorem info29 : (Tryz.prog.info? 26).map (fun i => (i.zero, i.size, i.bytes)) = some (some (.slice none 0 0), 1, 24) := by kernel_rfl
theorem info38 : (Tryz.prog.info? 41).map (fun i => (i.zero, i.size, i.bytes)) = some (some (.slice none 0 0), 1, 24) := by kernel_rfl

/-- A row of bools. -/
def Br (w : World) (b : Nat) (f : Nat → Bool) (n : Nat) : Prop := Tb w b 4 (fun j => .bool (f j)) n
theorem Br.cell {w : World} {b n : Nat} {f : Nat → Bool} (h : Br w b f n) {i : Nat} (hi : i < n) : w.cell? ⟨b, i, none⟩ = some (.bool (f i)) := Tb.cell h hi
theorem Br.set {w : World} {b n : Nat} {f : Nat → Bool} (h : Br w b f n) (i : Nat) (v : Bool) : Br (w.setCell ⟨b, i, none⟩ (.bool v)) b (fun x => if x = i then v else f x) n :=
  (Tb.set h i (.bool v)).congr fun j _ => by by_cases e : j = i <;> simp [e]
theorem Br.congr {w : World} {b n : Nat} {f g : Nat → Bool} (h : Br w b f n) (e : ∀ i, i < n → f i = g i) : Br w b g n := Tb.congr h fun i hi => by rw [e i hi]
theorem Br.upd {w : World} {b n : Nat} {f : Nat → Bool} (h : Br w b f n) (i : Nat) : Br (w.setCell ⟨b, i, none⟩ (.bool true)) b (upd f i) n :=
  (h.set i true).congr fun j _ => by
    unfold Gp.upd
    by_cases e : j = i
    · simp [e]
    · rw [if_neg e]; simp [e]

/-- A graph: a row of rows of bools, each in a block of its own. -/
structure Gr (w : World) (b : Nat) (R : Nat → Nat) (n : Nat) (G : Nat → Nat → Bool) : Prop where
  hdr : Tb w b 41 (fun i => .slice (some ⟨R i, 0, none⟩) n n) n
  row : ∀ i, i < n → Br w (R i) (G i) n
  one : ∀ i j, i < n → j < n → R i = R j → i = j
theorem Tb.apart {w : World} {b b' : Nat} {t t' : TypeId} {f f' : Nat → Value} {n n' : Nat} (h : Tb w b t f n) (h' : Tb w b' t' f' n') (ht : t ≠ t') : b ≠ b' := by
  rintro rfl
  unfold Tb at *
  rw [h] at h'
  simp only [Option.some.injEq, Obj.cells.injEq] at h'
  exact ht h'.2.1
section
variable {w w' : World} {b n : Nat} {R : Nat → Nat} {G : Nat → Nat → Bool}
theorem Gr.same (h : Gr w b R n G) (h0 : w'.heap[b]? = w.heap[b]?) (h1 : ∀ i, i < n → w'.heap[R i]? = w.heap[R i]?) : Gr w' b R n G := ⟨h.hdr.same h0, fun i hi => Tb.same (h.row i hi) (h1 i hi), h.one⟩
theorem Gr.lt (h : Gr w b R n G) : b < w.heap.size := h.hdr.lt
theorem Gr.rlt (h : Gr w b R n G) {i : Nat} (hi : i < n) : R i < w.heap.size := Tb.lt (h.row i hi)
theorem Gr.ne (h : Gr w b R n G) {i : Nat} (hi : i < n) : b ≠ R i := h.hdr.apart (h.row i hi) (by decide)
theorem Gr.up (h : Gr w b R n G) (hb : Below w.heap.size w w') : Gr w' b R n G := h.same (hb.block b h.lt) fun i hi => hb.block (R i) (h.rlt hi)
theorem Gr.on (h : Gr w b R n G) {D : Nat} (hb : Below D w w') (h0 : b < D) (h1 : ∀ i, i < n → R i < D) : Gr w' b R n G := h.same (hb.block b h0) fun i hi => hb.block (R i) (h1 i hi)
theorem Gr.old (h : Gr w b R n G) (o : Obj) : Gr (w.alloc o) b R n G := h.up ((Below.refl _ _).alloc (Nat.le_refl _) o)
theorem Gr.drew (h : Gr w b R n G) : Gr w.drew b R n G := h.same rfl fun _ _ => rfl
theorem Gr.other (h : Gr w b R n G) {p : Addr} (h0 : b ≠ p.block) (h1 : ∀ i, i < n → R i ≠ p.block) (v : Value) : Gr (w.setCell p v) b R n G := h.same (Below.heap_setCell w p v b h0) fun i hi => Below.heap_setCell w p v (R i) (h1 i hi)
theorem Gr.hcell (h : Gr w b R n G) {i : Nat} (hi : i < n) : w.cell? ⟨b, i, none⟩ = some (.slice (some ⟨R i, 0, none⟩) n n) := h.hdr.cell hi
theorem Gr.cell (h : Gr w b R n G) {i j : Nat} (hi : i < n) (hj : j < n) : w.cell? ⟨R i, j, none⟩ = some (.bool (G i j)) := (h.row i hi).cell hj
theorem Gr.set (h : Gr w b R n G) {i : Nat} (hi : i < n) (j : Nat) (v : Bool) : Gr (w.setCell ⟨R i, j, none⟩ (.bool v)) b R n (fun x y => if x = i ∧ y = j then v else G x y) :=
  ⟨h.hdr.other (h.ne hi) _, fun k hk => by
    by_cases e : k = i
    · subst e
      exact ((h.row k hk).set j v).congr fun y _ => by simp
    · exact Br.congr (f := G k) ((h.row k hk).other (fun e2 => e (h.one _ _ hk hi e2)) _) fun y _ => by rw [if_neg (fun c => e c.1)], h.one⟩
theorem Gr.congr (h : Gr w b R n G) {H : Nat → Nat → Bool} (e : ∀ i j, i < n → j < n → G i j = H i j) : Gr w b R n H := ⟨h.hdr, fun i hi => (h.row i hi).congr fun j hj => e i j hi hj, h.one⟩
end

/-- The edges of a graph in memory. -/
def Eg (n : Nat) (G : Nat → Nat → Bool) (a b : Nat) : Prop := a < n ∧ b < n ∧ G a b = true
theorem eg_in (n : Nat) (G : Nat → Nat → Bool) : ∀ x y, Eg n G x y → x < n ∧ y < n := fun x y h => ⟨h.1, h.2.1⟩

/-- The slice at the address A reads as the integers xs, all of which lie below block B. -/
def Sl (w : World) (B : Nat) (A : Option Addr) (xs : List Int) : Prop :=
  xs = [] ∨ ∃ b off, A = some ⟨b, off, none⟩ ∧ b < B ∧ ∀ j x, xs[j]? = some x → w.cell? ⟨b, off + j, none⟩ = some (.int .i64 x)
theorem Sl.at_ {w : World} {B : Nat} {A : Option Addr} {xs : List Int} (h : Sl w B A xs) {j : Nat} (hj : j < xs.length) :
    ∃ b off, A = some ⟨b, off, none⟩ ∧ b < B ∧ w.cell? ⟨b, off + j, none⟩ = some (.int .i64 xs[j]) := by
  rcases h with rfl | ⟨b, off, hA, hb, hc⟩
  · simp at hj
  · exact ⟨b, off, hA, hb, hc j xs[j] (List.getElem?_eq_getElem hj)⟩
theorem Sl.below {w w' : World} {B : Nat} {A : Option Addr} {xs : List Int} (h : Sl w B A xs) (hb : Below B w w') : Sl w' B A xs := by
  rcases h with rfl | ⟨b, off, hA, hlt, hc⟩
  · exact .inl rfl
  · exact .inr ⟨b, off, hA, hlt, fun j x hx => (hb.cell (p := ⟨b, off + j, none⟩) hlt).trans (hc j x hx)⟩
theorem Sl.mono {w : World} {B B' : Nat} {A : Option Addr} {xs : List Int} (h : Sl w B A xs) (hB : B ≤ B') : Sl w B' A xs := by
  rcases h with rfl | ⟨b, off, hA, hlt, hc⟩
  · exact .inl rfl
  · exact .inr ⟨b, off, hA, by omega, hc⟩
theorem Sl.to {w w' : World} {B : Nat} {A : Option Addr} {xs : List Int} (h : Sl w B A xs) (hb : Below B w w') (hB : B ≤ w'.heap.size) : Sl w' w'.heap.size A xs := (h.below hb).mono hB

/-- A slice of edges that reads as l. -/
def Es (w : World) (B : Nat) (A : Option Addr) (l : List (Int × Int)) : Prop :=
  l = [] ∨ ∃ b off, A = some ⟨b, off, none⟩ ∧ b < B ∧ ∀ i r, l[i]? = some r → w.cell? ⟨b, off + i * 2, none⟩ = some (.int .i64 r.1) ∧ w.cell? ⟨b, off + i * 2 + 1, none⟩ = some (.int .i64 r.2)
theorem Es.at_ {w : World} {B : Nat} {A : Option Addr} {l : List (Int × Int)} (h : Es w B A l) {i : Nat} (hi : i < l.length) : ∃ b off, A = some ⟨b, off, none⟩ ∧ b < B ∧ w.cell? ⟨b, off + i * 2, none⟩ = some (.int .i64 (l[i]).1) ∧ w.cell? ⟨b, off + i * 2 + 1, none⟩ = some (.int .i64 (l[i]).2) := by
  rcases h with rfl | ⟨b, off, hA, hb, hc⟩
  · simp at hi
  · exact ⟨b, off, hA, hb, hc i l[i] (List.getElem?_eq_getElem hi)⟩
theorem Es.below {w w' : World} {B : Nat} {A : Option Addr} {l : List (Int × Int)} (h : Es w B A l) (hb : Below B w w') : Es w' B A l := by
  rcases h with rfl | ⟨b, off, hA, hlt, hc⟩
  · exact .inl rfl
  · refine .inr ⟨b, off, hA, hlt, fun i r hr => ?_⟩
    obtain ⟨h1, h2⟩ := hc i r hr
    exact ⟨(hb.cell (p := ⟨b, off + i * 2, none⟩) hlt).trans h1, (hb.cell (p := ⟨b, off + i * 2 + 1, none⟩) hlt).trans h2⟩
theorem Es.mono {w : World} {B B' : Nat} {A : Option Addr} {l : List (Int × Int)} (h : Es w B A l) (hB : B ≤ B') : Es w B' A l := by
  rcases h with rfl | ⟨b, off, hA, hlt, hc⟩
  · exact .inl rfl
  · exact .inr ⟨b, off, hA, by omega, hc⟩
theorem Es.to {w w' : World} {B : Nat} {A : Option Addr} {l : List (Int × Int)} (h : Es w B A l) (hb : Below B w w') (hB : B ≤ w'.heap.size) : Es w' w'.heap.size A l := (h.below hb).mono hB

/-- The things' number, and the edges between things, as the document has them. -/
def am (n : Int) : Nat := (min (max n 0) 100).toNat
theorem am_le (n : Int) : am n ≤ 100 := by unfold am; omega
theorem am_in {n : Int} (h0 : 0 ≤ n) (h1 : n ≤ 100) : (am n : Int) = n := by unfold am; omega
def Ed (m : Nat) (l : List (Int × Int)) (a b : Nat) : Prop := a < m ∧ b < m ∧ ((a : Int), (b : Int)) ∈ l
theorem ed_in (m : Nat) (l : List (Int × Int)) : ∀ x y, Ed m l x y → x < m ∧ y < m := fun x y h => ⟨h.1, h.2.1⟩
open Classical in
noncomputable def ge (l : List (Int × Int)) (a b : Nat) : Bool := decide (((a : Int), (b : Int)) ∈ l)
theorem eg_ge (m : Nat) (l : List (Int × Int)) : Eg m (ge l) = Ed m l := by
  funext a b
  simp [Eg, Ed, ge]

/-- The call gave this bool, or number; nothing that was there has turned. -/
def BoolPost (w : World) (b : Bool) (e : Ending) (w' : World) : Prop := e = .returned (.bool b) ∧ Below w.heap.size w w'
def IntPost (w : World) (n : Int) (e : Ending) (w' : World) : Prop := e = .returned (.int .i64 n) ∧ Below w.heap.size w w'
def UpPost (w : World) (e : Ending) (w' : World) : Prop := e = .returned (.bool true) ∧ Below w.heap.size w w'
/-- The call gave a graph in blocks of its own. -/
def GrPost (w : World) (n : Nat) (G : Nat → Nat → Bool) (e : Ending) (w' : World) : Prop :=
  ∃ b R, e = .returned (.slice (some ⟨b, 0, none⟩) n n) ∧ Gr w' b R n G ∧ w.heap.size ≤ b ∧ (∀ i, i < n → w.heap.size ≤ R i) ∧ Below w.heap.size w w'

/-- Outside of the blocks of O nothing has turned. -/
structure Off (O : Nat → Prop) (w w' : World) : Prop where
  os : w'.os = w.os
  tape : w'.tape = w.tape
  output : w'.output = w.output
  size : w.heap.size ≤ w'.heap.size
  block : ∀ k, k < w.heap.size → ¬ O k → w'.heap[k]? = w.heap[k]?
theorem Off.refl (O : Nat → Prop) (w : World) : Off O w w := ⟨rfl, rfl, rfl, Nat.le_refl _, fun _ _ _ => rfl⟩
theorem Off.trans {O O1 : Nat → Prop} {a b c : World} (h : Off O a b) (k : Off O1 b c) (hO : ∀ r, O1 r → O r ∨ a.heap.size ≤ r) : Off O a c :=
  ⟨k.os.trans h.os, k.tape.trans h.tape, k.output.trans h.output, Nat.le_trans h.size k.size, fun i hi hn => (k.block i (Nat.lt_of_lt_of_le hi h.size) (fun h1 => (hO i h1).elim hn (by omega))).trans (h.block i hi hn)⟩
theorem Off.of_below {O : Nat → Prop} {w w' : World} (h : Below w.heap.size w w') : Off O w w' := ⟨h.os, h.tape, h.output, h.size, fun k hk _ => h.block k hk⟩
theorem Off.then {O : Nat → Prop} {a b c : World} (h : Off O a b) (k : Below b.heap.size b c) : Off O a c := h.trans (Off.of_below (O := O) k) (fun r hr => .inl hr)
theorem Off.below {O : Nat → Prop} {w w' : World} {D : Nat} (h : Off O w w') (hO : ∀ r, O r → D ≤ r) (hD : D ≤ w.heap.size) : Below D w w' :=
  ⟨h.os, h.tape, h.output, h.size, fun k hk => h.block k (by omega) (fun h1 => by have := hO k h1; omega)⟩
theorem Off.drew {O : Nat → Prop} {w w' : World} (h : Off O w w') : Off O w w'.drew := ⟨h.os, h.tape, h.output, h.size, h.block⟩
theorem Off.alloc {O : Nat → Prop} {a w : World} (h : Off O a w) (o : Obj) : Off O a (w.alloc o) := h.then ((Below.refl _ _).alloc (Nat.le_refl _) _)
theorem Off.set {O : Nat → Prop} {a w : World} (h : Off O a w) {p : Addr} (hp : O p.block ∨ a.heap.size ≤ p.block) (v : Value) : Off O a (w.setCell p v) :=
  ⟨h.os, h.tape, h.output, by simp [World.setCell]; exact h.size, fun k hk hn => (Below.heap_setCell w p v k (fun e => hp.elim (fun c => hn (e ▸ c)) (by omega))).trans (h.block k hk hn)⟩
theorem Off.grown {O : Nat → Prop} {a w w' : World} {row : Option Nat} (h : Off O a w) (hg : w.grownBy w' row) (hr : ∀ k, row = some k → O k ∨ a.heap.size ≤ k) : Off O a w' :=
  ⟨hg.os.trans h.os, hg.tape.trans h.tape, hg.output.trans h.output, Nat.le_trans h.size hg.size, fun k hk hn => (hg.block k (Nat.lt_of_lt_of_le hk h.size) (fun e => (hr k e.symm).elim hn (by omega))).trans (h.block k hk hn)⟩

end Go.Proofs.YtgpciipemgljcaaGreat.Gp
