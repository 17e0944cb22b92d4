/-
  What the operations on an index's maps do: look up, delete, store; told of the words for an index in memory. No program's function is walked here. No conditions.
-/
import Derived.Test.YtmeklhlojogdnaaDoorIxm
namespace Go.Proofs.YtmeklhlojogdnaaDoor
open Go.RowKit Go.MapKept
open Go.ChangeMaps (setBlock)
set_option linter.unusedVariables false

theorem z61 (W : World) : (zeroValue 61).run Tryd.prog W = .ok (.map none) W := by kernel_rfl
theorem z57 (W : World) : (zeroValue 57).run Tryd.prog W = .ok (.slice none 0 0) W := by kernel_rfl

/-- Without the instance i under the key a. -/
def gdel (g : Ky → Int × Int → Option Int) (a : Ky) (i : Int × Int) : Ky → Int × Int → Option Int := fun x j => if x = a ∧ j = i then none else g x j
/-- With the instance i under the key a. -/
def gput (g : Ky → Int × Int → Option Int) (a : Ky) (i : Int × Int) (q : Int) : Ky → Int × Int → Option Int := fun x j => if x = a ∧ j = i then some q else g x j

theorem Tm.at_ {w : World} {O : Nat → Prop} {K T : Nat} {g : Ky → Int × Int → Option Int} (h : Tm w O K T g) {a : Ky} (ha : fits a.i) {i : Int × Int} (hi : fits i.1 ∧ fits i.2) {q : Int} (hq : g a i = some q) :
    ∃ b, O b ∧ b ≠ K ∧ b ≠ T ∧ b < w.heap.size ∧ (∀ r cs t fr, w.heap[r]? = some (.cells cs t fr) → r ≠ b ∧ r ≠ T) ∧ (∀ W : World, W.heap[T]? = w.heap[T]? → (Instr.lookup 53 (.map (some T)) (kv a.a a.i a.c) false).run Tryd.prog W = .ok (.map (some b)) W) ∧
    ∃ o' c', (∀ (W : World) ty, W.heap[b]? = w.heap[b]? → (Builtin.delete_ #[61, 26] ty #[.map (some b), iv i]).run Tryd.prog W = .ok (.tuple #[]) (setBlock W b o')) ∧
      (∀ (W : World) ty, W.heap[b]? = some o' → (Builtin.len_ #[61] ty #[.map (some b)]).run Tryd.prog W = .ok (.int .i64 ((c' : Nat) : Int)) W) ∧
      (∀ W : World, W.heap[T]? = w.heap[T]? → W.heap[b]? = some o' → (∀ r, O r → r ≠ T → r ≠ b → w.heap[r]? ≠ none → W.heap[r]? = w.heap[r]?) → Tm W O K T (gdel g a i)) ∧
      ∃ oT, (∀ (W : World) ty, W.heap[T]? = w.heap[T]? → (Builtin.delete_ #[53, 60] ty #[.map (some T), kv a.a a.i a.c]).run Tryd.prog W = .ok (.tuple #[]) (setBlock W T oT)) ∧
        (c' = 0 → ∀ W : World, W.heap[T]? = some oT → (∀ r, O r → r ≠ T → r ≠ b → w.heap[r]? ≠ none → W.heap[r]? = w.heap[r]?) → Tm W O K T (gdel g a i)) := by
  obtain ⟨ft, ct, hm, hx, hin⟩ := h
  rcases hx a with ⟨_, h2⟩ | ⟨b, c, h1, h2, h3, h4, h5⟩
  · rw [h2 i] at hq; cases hq
  · refine ⟨b, h2, h3, h4, mo_lt h5, fun r cs t fr h => ⟨mo_row h5 h, mo_row hm h⟩, fun W hW => ?_, ?_⟩
    · have := hm.look goodK (a := a) ha (t := 53) (e := 61) (z := .map none) Tryd.underlying53 z61 T W hW
      rw [h1] at this
      exact this
    · obtain ⟨o', hd, hm'⟩ := h5.del goodI (a := i) hi (t := 61) (e := 3) Tryd.underlying61 b
      obtain ⟨oT, hdT, hmT⟩ := hm.del goodK (a := a) ha (t := 53) (e := 61) Tryd.underlying53 T
      have hf : upd (fun j => (g a j).map (Value.int .i64)) i none = fun j => (gdel g a i a j).map (Value.int .i64) := by
        funext j
        simp only [upd, gdel, true_and]
        split <;> rfl
      rw [hf] at hm'
      have oth : ∀ x, x ≠ a → gdel g a i x = g x := fun x hxa => by funext j; simp only [gdel, hxa, false_and, if_false]
      refine ⟨o', _, fun W ty hW => hd W ty hW, fun W ty hW => hm'.len (e := 3) Tryd.underlying61 ty b W hW, fun W hT hb hr => ?_, oT, fun W ty hW => hdT W ty hW, fun hc W hT hr => ?_⟩
      · refine ⟨ft, ct, by rw [hT]; exact hm, fun x => ?_, hin⟩
        by_cases hxa : x = a
        · subst hxa
          exact .inr ⟨b, _, h1, h2, h3, h4, by rw [hb]; exact hm'⟩
        · rw [oth x hxa]
          rcases hx x with h6 | ⟨b', c', h6, h7, h8, h9, h10⟩
          · exact .inl h6
          · have hne : b' ≠ b := fun e => hxa (hin x a b (by rw [← e]; exact h6) h1)
            refine .inr ⟨b', c', h6, h7, h8, h9, ?_⟩
            rw [hr b' h7 h9 hne (by obtain ⟨es, cl, he, _⟩ := h10; rw [he]; simp)]
            exact h10
      · refine ⟨upd ft a none, _, by rw [hT]; exact hmT, fun x => ?_, fun x x' b' e1 e2 => ?_⟩
        · by_cases hxa : x = a
          · subst hxa
            refine .inl ⟨by simp [upd], fun j => ?_⟩
            rw [hc] at hm'
            have := mo_zero hm' j
            simpa using this
          · rw [oth x hxa]
            have hu : upd ft a none x = ft x := by simp [upd, hxa]
            rw [hu]
            rcases hx x with h6 | ⟨b', c', h6, h7, h8, h9, h10⟩
            · exact .inl h6
            · have hne : b' ≠ b := fun e => hxa (hin x a b (by rw [← e]; exact h6) h1)
              refine .inr ⟨b', c', h6, h7, h8, h9, ?_⟩
              rw [hr b' h7 h9 hne (by obtain ⟨es, cl, he, _⟩ := h10; rw [he]; simp)]
              exact h10
        · simp only [upd] at e1 e2
          split at e1
          · cases e1
          · split at e2
            · cases e2
            · exact hin x x' b' e1 e2

theorem filter_one {L : List Kn} (h : L.Pairwise (fun x y => x.i ≠ y.i)) {i : Int × Int} : (∃ k ∈ L, k.i = i) → (L.filter (fun x => decide (x.i ≠ i))).length + 1 = L.length := by
  induction L with
  | nil => rintro ⟨k, hk, _⟩; simp at hk
  | cons y L ih =>
    obtain ⟨h1, h2⟩ := List.pairwise_cons.1 h
    rintro ⟨k, hk, rfl⟩
    rcases List.mem_cons.1 hk with rfl | hk'
    · have : L.filter (fun x => decide (x.i ≠ k.i)) = L := List.filter_eq_self.2 (fun x hx => decide_eq_true (fun e => h1 x hx e.symm))
      rw [List.filter_cons_of_neg (by simp), this, List.length_cons]
    · rw [List.filter_cons_of_pos (by simp; exact h1 k hk'), List.length_cons, List.length_cons, ← ih h2 ⟨k, hk', rfl⟩]

theorem kn_uniq {L : List Kn} (h : L.Pairwise (fun x y => x.i ≠ y.i)) {x y : Kn} (hx : x ∈ L) (hy : y ∈ L) (he : x.i = y.i) : x = y := by
  induction L with
  | nil => simp at hx
  | cons z L ih =>
    obtain ⟨h1, h2⟩ := List.pairwise_cons.1 h
    rcases List.mem_cons.1 hx with rfl | hx'
    · rcases List.mem_cons.1 hy with rfl | hy'
      · rfl
      · exact absurd he (h1 y hy')
    · rcases List.mem_cons.1 hy with rfl | hy'
      · exact absurd he.symm (h1 x hx')
      · exact ih h2 hx' hy'

theorem Km.at_ {w : World} {O : Nat → Prop} {K : Nat} {L : List Kn} (h : Km w O K L) (once : L.Pairwise (fun x y => x.i ≠ y.i)) {i : Int × Int} (hi : fits i.1 ∧ fits i.2) {g : Ky → Int × Int → Option Int} (hg : Gq L g) :
    ∃ l A c, (∀ W : World, W.heap[K]? = w.heap[K]? → (Instr.lookup 52 (.map (some K)) (iv i) false).run Tryd.prog W = .ok (.slice A ((l : List Ky).length) c) W) ∧ Kr w O A l ∧ l.length ≤ 2 ∧ (∀ a, (∃ q, g a i = some q) ↔ a ∈ l) ∧ (∀ (p q : Nat) (a : Ky), l[p]? = some a → l[q]? = some a → p = q) ∧ (∀ a ∈ l, fits a.i) ∧
    ∃ oK, (∀ (W : World) ty, W.heap[K]? = w.heap[K]? → (Builtin.delete_ #[52, 26] ty #[.map (some K), iv i]).run Tryd.prog W = .ok (.tuple #[]) (setBlock W K oK)) ∧
      (∀ W : World, W.heap[K]? = some oK → (∀ r cs, O r → w.heap[r]? = some (.cells cs 60 (0, 0)) → W.heap[r]? = w.heap[r]?) → Km W O K (L.filter (fun x => decide (x.i ≠ i)))) := by
  obtain ⟨fk, hm, hx⟩ := h
  obtain ⟨oK, hd, hm'⟩ := hm.del goodI (a := i) hi (t := 52) (e := 57) Tryd.underlying52 K
  have HL := fun W hW => hm.look goodI (a := i) hi (t := 52) (e := 57) (z := .slice none 0 0) Tryd.underlying52 z57 K W hW
  have Hd : ∀ W : World, W.heap[K]? = some oK → (∀ r cs, O r → w.heap[r]? = some (.cells cs 60 (0, 0)) → W.heap[r]? = w.heap[r]?) → (if (fk i).isSome then L.length - 1 else L.length) = (L.filter (fun x => decide (x.i ≠ i))).length → Km W O K (L.filter (fun x => decide (x.i ≠ i))) := fun W hW hr hc => by
    refine ⟨upd fk i none, by rw [hW, ← hc]; exact hm', fun j => ?_⟩
    by_cases hj : j = i
    · subst hj
      exact .inl ⟨by simp [upd], fun k hk => by simpa using (List.mem_filter.1 hk).2⟩
    · have hu : upd fk i none j = fk j := by simp [upd, hj]
      rw [hu]
      rcases hx j with ⟨h1, h2⟩ | ⟨k, hk, hki, A, c, h1, h2⟩
      · exact .inl ⟨h1, fun k hk => h2 k (List.mem_filter.1 hk).1⟩
      · exact .inr ⟨k, List.mem_filter.2 ⟨hk, decide_eq_true (by rw [hki]; exact hj)⟩, hki, A, c, h1, h2.keep (fun _ h => h) hr⟩
  rcases hx i with ⟨h1, h2⟩ | ⟨k, hk, hki, A, c, h1, h2⟩
  · refine ⟨[], none, 0, fun W hW => by have := HL W hW; rw [h1] at this; exact this, .inl rfl, by simp, fun a => ⟨fun ⟨q, hq⟩ => ?_, fun hq => by simp at hq⟩, fun p q a hp => by simp at hp, by simp, oK, fun W ty hW => hd W ty hW, fun W hW hr => Hd W hW hr ?_⟩
    · obtain ⟨k, hk, hki, _⟩ := (hg a i q).1 hq
      exact absurd hki (h2 k hk)
    · rw [h1, List.filter_eq_self.2 (fun x hx => decide_eq_true (h2 x hx))]; rfl
  · refine ⟨kl k.c, A, c, fun W hW => by have := HL W hW; rw [h1] at this; exact this, h2, ?_, fun a => ⟨fun ⟨q, hq⟩ => ?_, fun hq => ⟨k.q, (hg a i k.q).2 ⟨k, hk, hki, hq, rfl⟩⟩⟩, fun p q a hp hq => kl_sep hp hq, fun a ha => ?_, oK, fun W ty hW => hd W ty hW, fun W hW hr => Hd W hW hr ?_⟩
    · rcases ho : k.c.on with _ | _
      · rw [kl_no ho]; simp
      · rw [kl_yes ho]; simp
    · obtain ⟨k', hk', hki', ha', _⟩ := (hg a i q).1 hq
      rw [kn_uniq once hk hk' (hki.trans hki'.symm)]
      exact ha'
    · have := kl_fits ha
      exact ⟨by omega, by omega⟩
    · rw [h1]
      have := filter_one once (i := i) ⟨k, hk, hki⟩
      simp only [Option.isSome_some, if_true]
      omega

end Go.Proofs.YtmeklhlojogdnaaDoor
