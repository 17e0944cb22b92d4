/-
  What stands behind graph.inOrder: plain facts of what is left and what is free; how parts in memory read as lists of lists. No program's function is walked here. No conditions.
-/
import Derived.Test.YtnfjfpiijikniaaFi
namespace Go.Proofs.Ytnfjfpiijikniaa.Gp
open Go.RowKit Go.Shelf
set_option linter.unusedVariables false

theorem Rem.same {E : Nat → Nat → Prop} {m : Nat} {T : Nat → Prop} {ps : List (List Nat)} (h : Rem E m T ps) {p q : List Nat} (hp : p ∈ ps) (hq : q ∈ ps) {x : Nat} (h1 : x ∈ p) (h2 : x ∈ q) : p = q := by
  obtain ⟨a, _, _, rfl⟩ := h.isc p hp
  obtain ⟨b, _, _, rfl⟩ := h.isc q hq
  rw [← cmp_same h1, ← cmp_same h2]
theorem Rem.ne {E : Nat → Nat → Prop} {m : Nat} {T : Nat → Prop} {ps : List (List Nat)} (h : Rem E m T ps) {p : List Nat} (hp : p ∈ ps) : p ≠ [] := by
  obtain ⟨a, ha, _, rfl⟩ := h.isc p hp
  intro e
  have := cmp_self (E := E) ha
  rw [e] at this
  simp at this
theorem Rem.inn {E : Nat → Nat → Prop} {m : Nat} {T : Nat → Prop} {ps : List (List Nat)} (h : Rem E m T ps) {p : List Nat} (hp : p ∈ ps) : ∀ x ∈ p, x < m := by
  obtain ⟨a, ha, _, rfl⟩ := h.isc p hp
  exact fun x hx => (mem_cmp.1 hx).1
theorem cmp_len {E : Nat → Nat → Prop} (m t : Nat) : (cmp E m t).length ≤ m := by
  have := List.length_filter_le (fun x => rb E t x && rb E x t) (List.range m)
  simpa [cmp] using this
theorem Rem.plen {E : Nat → Nat → Prop} {m : Nat} {T : Nat → Prop} {ps : List (List Nat)} (h : Rem E m T ps) {p : List Nat} (hp : p ∈ ps) : p.length ≤ m := by
  obtain ⟨a, ha, _, rfl⟩ := h.isc p hp
  exact cmp_len m a
theorem Rem.len {E : Nat → Nat → Prop} {m : Nat} {T : Nat → Prop} {ps : List (List Nat)} (h : Rem E m T ps) : ps.length ≤ m := by
  have hn : (ps.map hd).Nodup := by
    rw [List.Nodup, List.pairwise_map]
    exact h.inc.imp fun k => by omega
  have := hn.length_le_of_subset (l₂ := List.range m) (fun x hx => by
    obtain ⟨p, hp, rfl⟩ := List.mem_map.1 hx
    obtain ⟨a, ha, _, rfl⟩ := h.isc p hp
    exact List.mem_range.2 (mem_cmp.1 (hd_cmp ha)).1)
  simpa using this
theorem hf_pf {n : Nat} {G : Nat → Nat → Bool} {told : Nat → Bool} {hm : Nat → Nat} {ps : List (List Nat)} (h : Rem (Eg n G) n (fun x => told x = true) ps) (ht : ∀ y, y < n → hm y = hd (cmp (Eg n G) n y)) {p : List Nat} (hp : p ∈ ps) :
    (∀ x, x ∈ p → Hf n G told hm (hd p) x n) ↔ Pf (Eg n G) (fun x => told x = true) p := by
  obtain ⟨a, ha, _, rfl⟩ := h.isc p hp
  constructor
  · intro hh x hx y e
    refine (hh x hx y e.2.1 e.2.2).imp_right fun k => ?_
    rw [ht y e.2.1] at k
    rw [← same_hd e.2.1 ha k]
    exact cmp_self e.2.1
  · intro hh x hx y hy hG
    refine (hh x hx y ⟨(mem_cmp.1 hx).1, hy, hG⟩).imp_right fun k => ?_
    rw [ht y hy, cmp_same k]

/-- One part more is told. -/
theorem told_step {n : Nat} {G : Nat → Nat → Bool} {told : Nat → Bool} {A C out : List (List Nat)} {p : List Nat} (hs : Sf (Eg n G) n (fun x => told x = true) out) (h : Rem (Eg n G) n (fun x => told x = true) (A ++ p :: C)) (hp : Pf (Eg n G) (fun x => told x = true) p) (hA : ∀ q, q ∈ A → ¬ Pf (Eg n G) (fun x => told x = true) q) :
    Sf (Eg n G) n (fun x => (told x || decide (x ∈ p)) = true) (out ++ [p]) ∧ Rem (Eg n G) n (fun x => (told x || decide (x ∈ p)) = true) (A ++ C) := by
  obtain ⟨h1, h2, h3⟩ := h.step (eg_in n G) hs.shut hp hA
  have e : (fun x => (told x || decide (x ∈ p)) = true) = (fun x => told x = true ∨ x ∈ p) := by
    funext x
    simp
  rw [e]
  refine ⟨?_, h3⟩
  have := hs.more (eg_in n G) h1
  rw [h2] at this
  exact this
theorem all_told {n : Nat} {G : Nat → Nat → Bool} {told : Nat → Bool} {out : List (List Nat)} (hs : Sf (Eg n G) n (fun x => told x = true) out) (h : Rem (Eg n G) n (fun x => told x = true) []) : Out (Eg n G) n (fun _ => False) out :=
  hs.end_ fun k hk => Classical.byContradiction fun hn => by
    obtain ⟨p, hp, _⟩ := h.all k hk hn
    simp at hp

theorem Pr.up {w w' : World} {base : Nat} {v : Value} {ps : List (List Nat)} (h : Pr w base v ps) (hb : Below w.heap.size w w') : Pr w' base v ps := by
  obtain ⟨hs, ho, hi⟩ := h
  exact ⟨hs, own_same ho fun g hg => hb.block g (ho.lt g hg).2, fun i p hp => by obtain ⟨x, h1, h2⟩ := hi i p hp; exact ⟨x, h1, h2.ut (Ut.of_below hb)⟩⟩
theorem Pr.form {w : World} {base : Nat} {v : Value} {ps : List (List Nat)} (h : Pr w base v ps) : ∃ A c, v = .slice A ps.length c ∧ (0 < ps.length → ∃ g, A = some ⟨g, 0, none⟩) := by
  obtain ⟨hs, ho, _⟩ := h
  rcases ho.2 with ⟨h1, h2⟩ | ⟨g, cap, cur, h1, _⟩
  · exact ⟨none, 0, by rw [h1, h2], fun h => by omega⟩
  · exact ⟨_, cap, h1, fun _ => ⟨g, rfl⟩⟩
theorem ir_sl {w : World} {A : Option Addr} {n c : Nat} {p : List Nat} (h : Ir w (.slice A n c) p) : Sl w w.heap.size A (zs p) := by
  obtain ⟨g, c', cur, hv, hh, hc⟩ := h
  simp only [Value.slice.injEq] at hv
  obtain ⟨rfl, _⟩ := hv
  refine .inr ⟨g, 0, rfl, lt_of_block hh, fun j x hx => ?_⟩
  unfold zs at hx
  rw [List.getElem?_map] at hx
  rcases hp : p[j]? with _ | y
  · rw [hp] at hx; cases hx
  · rw [hp] at hx
    cases hx
    rw [Nat.zero_add, cell_of_row w g j cur 3 _ hh]
    exact hc j y hp
theorem Pr.ll {w : World} {base : Nat} {A : Option Addr} {c : Nat} {ps : List (List Nat)} (h : Pr w base (.slice A ps.length c) ps) : Ll w w.heap.size A (ps.map zs) := by
  obtain ⟨hs, ho, hi⟩ := h
  rcases Nat.eq_zero_or_pos ps.length with h0 | h0
  · exact .inl (by rw [List.length_eq_zero_iff.1 h0]; rfl)
  · obtain ⟨g, c', hv, _, hlt⟩ := ho.form h0
    simp only [Value.slice.injEq] at hv
    obtain ⟨rfl, _, rfl⟩ := hv
    refine .inr ⟨g, 0, rfl, hlt, fun i r hr => ?_⟩
    rw [List.getElem?_map] at hr
    rcases hp : ps[i]? with _ | p
    · rw [hp] at hr; cases hr
    · rw [hp] at hr
      cases hr
      obtain ⟨x, h1, h2⟩ := hi i p hp
      have hc := own_cell ho h1
      rw [Nat.zero_add]
      obtain ⟨g', c'', cur, rfl, _⟩ := id h2
      exact ⟨_, c'', by rw [hc, zs_len], ir_sl h2⟩

/-- The call gave a list of lists; nothing that was there has turned. -/
def ListsPost (w : World) (out : List (List Nat)) (e : Ending) (w' : World) : Prop := ∃ A c, e = .returned (.slice A out.length c) ∧ Ll w' w'.heap.size A (out.map zs) ∧ Below w.heap.size w w'

end Go.Proofs.Ytnfjfpiijikniaa.Gp
