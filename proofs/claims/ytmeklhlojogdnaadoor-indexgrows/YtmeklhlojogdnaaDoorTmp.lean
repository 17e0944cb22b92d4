/-
  What the stores into an index's maps do, told of the words for an index in memory; what is known behind a Put. No program's function is walked here. No conditions.
-/
import Derived.Test.YtmeklhlojogdnaaDoorTmk
namespace Go.Proofs.YtmeklhlojogdnaaDoor
open Go.RowKit Go.MapKept
open Go.ChangeMaps (setBlock)
set_option linter.unusedVariables false

theorem Tm.put_ {w : World} {O : Nat → Prop} {K T : Nat} {g : Ky → Int × Int → Option Int} (h : Tm w O K T g) {a : Ky} (ha : fits a.i) {i : Int × Int} (hi : fits i.1 ∧ fits i.2) (q : Int) :
    ((∀ W : World, W.heap[T]? = w.heap[T]? → (Instr.lookup 53 (.map (some T)) (kv a.a a.i a.c) false).run Tryd.prog W = .ok (.map none) W) ∧
      ∀ b, ∃ oT o', (∀ W : World, W.heap[T]? = w.heap[T]? → (Instr.mapUpdate 53 (.map (some T)) (kv a.a a.i a.c) (.map (some b))).run Tryd.prog W = .ok () (setBlock W T oT)) ∧
        (∀ W : World, W.heap[T]? = some oT → (Instr.lookup 53 (.map (some T)) (kv a.a a.i a.c) false).run Tryd.prog W = .ok (.map (some b)) W) ∧
        (∀ W : World, W.heap[b]? = some (.map #[] 0) → (Instr.mapUpdate 61 (.map (some b)) (iv i) (.int .i64 q)).run Tryd.prog W = .ok () (setBlock W b o')) ∧
        ∀ (W : World) (O' : Nat → Prop), W.heap[T]? = some oT → W.heap[b]? = some o' → w.heap.size ≤ b → b ≠ K → b ≠ T → (∀ r, O r → O' r) → O' b → (∀ r, O r → r ≠ T → w.heap[r]? ≠ none → W.heap[r]? = w.heap[r]?) → Tm W O' K T (gput g a i q)) ∨
    ∃ b, O b ∧ b ≠ K ∧ b ≠ T ∧ b < w.heap.size ∧ (∀ r cs t fr, w.heap[r]? = some (.cells cs t fr) → r ≠ b ∧ r ≠ T) ∧ (∀ W : World, W.heap[T]? = w.heap[T]? → (Instr.lookup 53 (.map (some T)) (kv a.a a.i a.c) false).run Tryd.prog W = .ok (.map (some b)) W) ∧
      ∃ o', (∀ W : World, W.heap[b]? = w.heap[b]? → (Instr.mapUpdate 61 (.map (some b)) (iv i) (.int .i64 q)).run Tryd.prog W = .ok () (setBlock W b o')) ∧
        ∀ (W : World), W.heap[T]? = w.heap[T]? → W.heap[b]? = some o' → (∀ r, O r → r ≠ T → r ≠ b → w.heap[r]? ≠ none → W.heap[r]? = w.heap[r]?) → Tm W O K T (gput g a i q) := by
  obtain ⟨ft, ct, hm, hx, hin⟩ := h
  have oth : ∀ x, x ≠ a → gput g a i q x = g x := fun x hxa => by funext j; simp only [gput, hxa, false_and, if_false]
  have HL := fun W hW => hm.look goodK (a := a) ha (t := 53) (e := 61) (z := .map none) Tryd.underlying53 z61 T W hW
  rcases hx a with ⟨h1, h2⟩ | ⟨b, c, h1, h2, h3, h4, h5⟩
  · refine .inl ⟨fun W hW => by have := HL W hW; rw [h1] at this; exact this, fun b => ?_⟩
    obtain ⟨oT, hp, hmT⟩ := hm.put goodK (a := a) ha (t := 53) (e := 61) Tryd.underlying53 (.map (some b)) T
    obtain ⟨o', hp', hm'⟩ := (mo_new (d := dI)).put goodI (a := i) hi (t := 61) (e := 3) Tryd.underlying61 (.int .i64 q) b
    have hf : upd (fun _ => none) i (some (Value.int .i64 q)) = fun j => (gput g a i q a j).map (Value.int .i64) := by
      funext j
      simp only [upd, gput, true_and]
      split
      · rfl
      · rw [h2 j]; rfl
    rw [hf] at hm'
    refine ⟨oT, o', fun W hW => hp W hW, fun W hW => ?_, fun W hW => hp' W hW, fun W O' hT hb hbl hbK hbT hO ob hr => ?_⟩
    · have := hmT.look goodK (a := a) ha (t := 53) (e := 61) (z := .map none) Tryd.underlying53 z61 T W hW
      simp only [upd, if_true] at this
      exact this
    · refine ⟨upd ft a (some (.map (some b))), _, by rw [hT]; exact hmT, fun x => ?_, fun x x' b' e1 e2 => ?_⟩
      · by_cases hxa : x = a
        · subst hxa
          exact .inr ⟨b, _, by simp [upd], ob, hbK, hbT, by rw [hb]; exact hm'⟩
        · rw [oth x hxa]
          have hu : upd ft a (some (.map (some b))) x = ft x := by simp [upd, hxa]
          rw [hu]
          rcases hx x with h6 | ⟨b', c', h6, h7, h8, h9, h10⟩
          · exact .inl h6
          · refine .inr ⟨b', c', h6, hO b' h7, h8, h9, ?_⟩
            rw [hr b' h7 h9 (by obtain ⟨es, cl, he, _⟩ := h10; rw [he]; simp)]
            exact h10
      · have old : ∀ x, ft x = some (.map (some b)) → False := fun x hf => by
          rcases hx x with ⟨h6, _⟩ | ⟨b', c', h6, h7, h8, h9, h10⟩
          · rw [h6] at hf; cases hf
          · rw [h6] at hf
            cases hf
            have := mo_lt h10
            omega
        simp only [upd] at e1 e2
        split at e1
        · rename_i hxa
          cases e1
          split at e2
          · rename_i hxa'; rw [hxa, hxa']
          · exact (old x' e2).elim
        · split at e2
          · cases e2
            exact (old x e1).elim
          · exact hin x x' b' e1 e2
  · obtain ⟨o', hp, hm'⟩ := h5.put goodI (a := i) hi (t := 61) (e := 3) Tryd.underlying61 (.int .i64 q) b
    have hf : upd (fun j => (g a j).map (Value.int .i64)) i (some (Value.int .i64 q)) = fun j => (gput g a i q a j).map (Value.int .i64) := by
      funext j
      simp only [upd, gput, true_and]
      split <;> rfl
    rw [hf] at hm'
    refine .inr ⟨b, h2, h3, h4, mo_lt h5, fun r cs t fr h => ⟨mo_row h5 h, mo_row hm h⟩, fun W hW => by have := HL W hW; rw [h1] at this; exact this, o', fun W hW => hp W hW, fun W hT hb hr => ?_⟩
    refine ⟨ft, ct, by rw [hT]; exact hm, fun x => ?_, hin⟩
    by_cases hxa : x = a
    · subst hxa
      exact .inr ⟨b, _, h1, h2, h3, h4, by rw [hb]; exact hm'⟩
    · rw [oth x hxa]
      rcases hx x with h6 | ⟨b', c', h6, h7, h8, h9, h10⟩
      · exact .inl h6
      · have hne : b' ≠ b := fun e => hxa (hin x a b (by rw [← e]; exact h6) h1)
        refine .inr ⟨b', c', h6, h7, h8, h9, ?_⟩
        rw [hr b' h7 h9 hne (by obtain ⟨es, cl, he, _⟩ := h10; rw [he]; simp)]
        exact h10

theorem Km.put_ {w : World} {O : Nat → Prop} {K : Nat} {L : List Kn} (h : Km w O K L) (k : Kn) (hi : fits k.i.1 ∧ fits k.i.2) (hn : ∀ x ∈ L, x.i ≠ k.i) (A : Option Addr) (c : Nat) :
    ∃ oK, (∀ W : World, W.heap[K]? = w.heap[K]? → (Instr.mapUpdate 52 (.map (some K)) (iv k.i) (.slice A (kl k.c).length c)).run Tryd.prog W = .ok () (setBlock W K oK)) ∧
      ∀ (W : World) (O' : Nat → Prop), W.heap[K]? = some oK → (∀ r, O r → O' r) → (∀ r cs, O r → w.heap[r]? = some (.cells cs 60 (0, 0)) → W.heap[r]? = w.heap[r]?) → Kr W O' A (kl k.c) → Km W O' K (L ++ [k]) := by
  obtain ⟨fk, hm, hx⟩ := h
  obtain ⟨oK, hp, hm'⟩ := hm.put goodI (a := k.i) hi (t := 52) (e := 57) Tryd.underlying52 (.slice A (kl k.c).length c) K
  have h0 : fk k.i = none := by
    rcases hx k.i with ⟨h1, _⟩ | ⟨k', hk', hki, _⟩
    · exact h1
    · exact absurd hki (hn k' hk')
  refine ⟨oK, fun W hW => hp W hW, fun W O' hW hO hr hK => ⟨upd fk k.i (some (.slice A (kl k.c).length c)), ?_, fun j => ?_⟩⟩
  · rw [h0] at hm'
    rw [hW, List.length_append]
    exact hm'
  · by_cases hj : j = k.i
    · subst hj
      exact .inr ⟨k, by simp, rfl, A, c, by simp [upd], hK⟩
    · have hu : upd fk k.i (some (.slice A (kl k.c).length c)) j = fk j := by simp [upd, hj]
      rw [hu]
      rcases hx j with ⟨h1, h2⟩ | ⟨k', hk', hki, A', c', h1, h2⟩
      · refine .inl ⟨h1, fun x hx' => ?_⟩
        rcases List.mem_append.1 hx' with hx' | hx'
        · exact h2 x hx'
        · simp at hx'; subst hx'; exact fun e => hj e.symm
      · exact .inr ⟨k', by simp [hk'], hki, A', c', h1, h2.keep hO hr⟩

/-- With the instance i under the first p keys of l. -/
def gadd (g : Ky → Int × Int → Option Int) (l : List Ky) (i : Int × Int) (q : Int) (p : Nat) : Ky → Int × Int → Option Int := fun x j => if x ∈ l.take p ∧ j = i then some q else g x j
theorem gadd_zero (g : Ky → Int × Int → Option Int) (l : List Ky) (i : Int × Int) (q : Int) : gadd g l i q 0 = g := by funext x j; simp [gadd]
theorem gadd_succ (g : Ky → Int × Int → Option Int) (l : List Ky) (i : Int × Int) (q : Int) {p : Nat} (hp : p < l.length) : gput (gadd g l i q p) l[p] i q = gadd g l i q (p + 1) := by
  funext x j
  simp only [gput, gadd, List.take_succ_eq_append_getElem hp, List.mem_append, List.mem_singleton]
  by_cases h1 : x = l[p]
  · by_cases h2 : j = i
    · rw [if_pos ⟨h1, h2⟩, if_pos ⟨.inr h1, h2⟩]
    · rw [if_neg (fun h => h2 h.2), if_neg (fun h => h2 h.2), if_neg (fun h => h2 h.2)]
  · rw [if_neg (fun h => h1 h.1)]
    by_cases h2 : x ∈ l.take p ∧ j = i
    · rw [if_pos h2, if_pos ⟨.inl h2.1, h2.2⟩]
    · rw [if_neg h2, if_neg (fun h => h2 ⟨h.1.resolve_right h1, h.2⟩)]

/-- Behind a Put the keys are touched by what is known then. -/
theorem gq_put {L : List Kn} {g : Ky → Int × Int → Option Int} (hg : Gq L g) (k : Kn) :
    Gq (L.filter (fun x => decide (x.i ≠ k.i)) ++ [k]) (gadd (fun x j => if j = k.i then none else g x j) (kl k.c) k.i k.q (kl k.c).length) := by
  intro a i q
  simp only [gadd, List.take_length, List.mem_append, List.mem_singleton, List.mem_filter, decide_eq_true_eq]
  by_cases hi : i = k.i
  · subst hi
    by_cases ha : a ∈ kl k.c
    · rw [if_pos ⟨ha, rfl⟩]
      constructor
      · intro h; cases h; exact ⟨k, .inr rfl, rfl, ha, rfl⟩
      · rintro ⟨k', hk' | rfl, h1, h2, h3⟩
        · exact absurd h1 hk'.2
        · rw [h3]
    · rw [if_neg (fun h => ha h.1), if_pos rfl]
      constructor
      · intro h; cases h
      · rintro ⟨k', hk' | rfl, h1, h2, h3⟩
        · exact absurd h1 hk'.2
        · exact absurd h2 ha
  · rw [if_neg (fun h => hi h.2), if_neg hi, hg a i q]
    constructor
    · rintro ⟨k', hk', h1, h2, h3⟩; exact ⟨k', .inl ⟨hk', fun e => hi (h1.symm.trans e)⟩, h1, h2, h3⟩
    · rintro ⟨k', hk' | rfl, h1, h2, h3⟩
      · exact ⟨k', hk'.1, h1, h2, h3⟩
      · exact absurd h1.symm hi

/-- The two maps, as they are made. -/
theorem km_new {w : World} {O : Nat → Prop} {K : Nat} (h : w.heap[K]? = some (.map #[] 0)) : Km w O K [] := ⟨fun _ => none, by rw [h]; exact mo_new, fun i => .inl ⟨rfl, by simp⟩⟩
theorem tm_new {w : World} {O : Nat → Prop} {K T : Nat} (h : w.heap[T]? = some (.map #[] 0)) : Tm w O K T (fun _ _ => none) := ⟨fun _ => none, 0, by rw [h]; exact mo_new, fun a => .inl ⟨rfl, fun _ => rfl⟩, fun a a' b h => by cases h⟩
theorem gq_new : Gq [] (fun _ _ => none) := fun a i q => by simp

end Go.Proofs.YtmeklhlojogdnaaDoor
