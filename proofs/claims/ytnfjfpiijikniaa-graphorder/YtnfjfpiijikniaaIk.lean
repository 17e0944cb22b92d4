/-
  How the parts, what was told and the closure's world carry from one world to the next within graph.inOrder. No program's function is walked here. No conditions.
-/
import Derived.Test.YtnfjfpiijikniaaIp
namespace Go.Proofs.Ytnfjfpiijikniaa.Gp
open Go.RowKit Go.Shelf
set_option linter.unusedVariables false

theorem other_tag {w : World} {a b : Nat} {cs cs' : Array Value} {t t' : TypeId} {f f' : Nat × Nat} (h : w.heap[a]? = some (.cells cs t f)) (h' : w.heap[b]? = some (.cells cs' t' f')) (ht : t ≠ t') : a ≠ b := by
  rintro rfl
  rw [h] at h'
  simp only [Option.some.injEq, Obj.cells.injEq] at h'
  exact ht h'.2.1
theorem Pr.off {w w' : World} {base g : Nat} {v : Value} {ps : List (List Nat)} {cs : Array Value} (h : Pr w base v ps) (ho : Off (· = g) w w') (hg : w.heap[g]? = some (.cells cs 4 (0, 0))) : Pr w' base v ps := by
  obtain ⟨hs, h1, h2⟩ := h
  exact ⟨hs, own_same h1 fun r hr => ho.block r (h1.lt r hr).2 (fun e => own_tag h1 hg (by decide) (by rw [hr, e])), fun i p hp => by obtain ⟨x, k1, k2⟩ := h2 i p hp; exact ⟨x, k1, k2.ut (Ut.of_off ho hg (by decide))⟩⟩
theorem own_row {w : World} {base : Nat} {e : TypeId} {v : Value} {n : Nat} {xs : List Value} (h : w.ownsRow base e 1 v n xs) : ∀ r, v.ownBlock = some r → ∃ cs, w.heap[r]? = some (.cells cs e (0, 0)) := by
  rcases h.2 with ⟨rfl, _⟩ | ⟨g, cap, cur, rfl, _, hh, _⟩
  · intro r hr; simp [Value.ownBlock] at hr
  · intro r hr
    have : r = g := by simpa [Value.ownBlock] using hr.symm
    exact ⟨cur, by rw [this]; exact hh⟩
theorem Ut.of_grown {w w' : World} {row : Option Nat} (hg : w.grownBy w' row) (hr : ∀ r, row = some r → ∃ cs, w.heap[r]? = some (.cells cs 29 (0, 0))) : Ut 3 w w' := fun b cs hb => (hg.block b (lt_of_block hb) (fun e => by
  obtain ⟨cs', h⟩ := hr b e.symm
  exact other_tag hb h (by decide) rfl)).trans hb
/-- A part more is told: the parts stay. -/
theorem Pr.grown {w w' : World} {base : Nat} {v : Value} {ps : List (List Nat)} {row : Option Nat} (h : Pr w base v ps) (hg : w.grownBy w' row) (hr : ∀ r, row = some r → ∃ cs, w.heap[r]? = some (.cells cs 29 (0, 0))) (hne : ∀ r, v.ownBlock = some r → some r ≠ row) : Pr w' base v ps := by
  obtain ⟨hs, h1, h2⟩ := h
  exact ⟨hs, own_same h1 fun r k => hg.block r (h1.lt r k).2 (hne r k), fun i p hp => by obtain ⟨x, k1, k2⟩ := h2 i p hp; exact ⟨x, k1, k2.ut (Ut.of_grown hg hr)⟩⟩
/-- A part more is told: it lies behind those that were told. -/
theorem pr_more {w w' : World} {base g c n : Nat} {h : Value} {hs : List Value} {p : List Nat} {out : List (List Nat)} {row : Option Nat} (hi : ∀ (i : Nat) (p : List Nat), out[i]? = some p → ∃ h, hs[i]? = some h ∧ Ir w h p) (hl : hs.length = out.length) (hp : Ir w h p) (hg : w.grownBy w' row) (hr : ∀ r, row = some r → ∃ cs, w.heap[r]? = some (.cells cs 29 (0, 0)))
    (ho : w'.ownsRow base 29 1 (.slice (some ⟨g, 0, none⟩) n c) n (hs ++ [h])) (hn : n = out.length + 1) : Pr w' base (.slice (some ⟨g, 0, none⟩) n c) (out ++ [p]) := by
  refine ⟨hs ++ [h], by rw [List.length_append, List.length_singleton, ← hn]; exact ho, fun i q hq => ?_⟩
  have hu := Ut.of_grown hg hr
  rcases Nat.lt_or_ge i out.length with hi' | hi'
  · rw [List.getElem?_append_left hi'] at hq
    obtain ⟨x, h1, h2⟩ := hi i q hq
    exact ⟨x, by rw [List.getElem?_append_left (by omega)]; exact h1, h2.ut hu⟩
  · rw [List.getElem?_append_right hi'] at hq
    have hi0 : i - out.length = 0 := by
      have := (List.getElem?_eq_some_iff.1 hq).1
      simp at this; omega
    rw [hi0] at hq
    simp at hq
    subst hq
    exact ⟨_, by rw [List.getElem?_append_right (by omega), hl, hi0]; rfl, hp.ut hu⟩
/-- The parts lose one; what was told stays. -/
theorem Pr.cut {w w' : World} {base g : Nat} {v : Value} {ps : List (List Nat)} {cs : Array Value} (h : Pr w base v ps) (ho : Off (· = g) w w') (hg : w.heap[g]? = some (.cells cs 29 (0, 0))) (hlt : g < base) : Pr w' base v ps := by
  obtain ⟨hs, h1, h2⟩ := h
  exact ⟨hs, own_same h1 fun r hr => ho.block r (h1.lt r hr).2 (by have := (h1.lt r hr).1; omega), fun i p hp => by obtain ⟨x, k1, k2⟩ := h2 i p hp; exact ⟨x, k1, k2.ut (Ut.of_off ho hg (by decide))⟩⟩

section
variable {w w' : World} {n b : Nat} {R : Nat → Nat} {G : Nat → Nat → Bool} {gb tb hb tr hr : Nat} {told : Nat → Bool} {hm : Nat → Nat}
theorem Fw.keep {v : World} {told0 : Nat → Bool} (h0 : Fw v n b R G gb tb hb tr hr told0 hm) (h : Fw w n b R G gb tb hb tr hr told hm) (k : Below v.heap.size w w') : Fw w' n b R G gb tb hb tr hr told hm :=
  ⟨(k.block gb h0.bg.lt).trans h.bg, (k.block tb h0.bt.lt).trans h.bt, (k.block hb h0.bh.lt).trans h.bh, h.gr.on k h0.gr.lt (fun i hi => h0.gr.rlt hi), Tb.on h.rt k (Tb.lt h0.rt), Tb.on h.rh k h0.rh.lt⟩
theorem Fw.off {g : Nat} {cs : Array Value} (h : Fw w n b R G gb tb hb tr hr told hm) (ho : Off (· = g) w w') (hg : w.heap[g]? = some (.cells cs 29 (0, 0))) (hne : hb ≠ g) : Fw w' n b R G gb tb hb tr hr told hm :=
  ⟨(ho.block gb h.bg.lt (other_tag h.bg hg (by decide))).trans h.bg, (ho.block tb h.bt.lt (other_tag h.bt hg (by decide))).trans h.bt, (ho.block hb h.bh.lt hne).trans h.bh,
    h.gr.same (ho.block b h.gr.lt (other_tag h.gr.hdr hg (by decide))) (fun i hi => ho.block (R i) (h.gr.rlt hi) (other_tag (h.gr.row i hi) hg (by decide))),
    Tb.same h.rt (ho.block tr (Tb.lt h.rt) (other_tag h.rt hg (by decide))), Tb.same h.rh (ho.block hr h.rh.lt (other_tag h.rh hg (by decide)))⟩
theorem Fw.mark (h : Fw w n b R G gb tb hb tr hr told hm) (hR : ∀ i, i < n → R i ≠ tr) (x : Nat) : Fw (w.setCell ⟨tr, x, none⟩ (.bool true)) n b R G gb tb hb tr hr (upd told x) hm := by
  have e : w.heap[tr]? = some (.cells (tab (fun j => .bool (told j)) n) 4 (0, 0)) := h.rt
  exact ⟨(Below.heap_setCell w ⟨tr, x, none⟩ _ gb (other_tag h.bg e (by decide))).trans h.bg, (Below.heap_setCell w ⟨tr, x, none⟩ _ tb (other_tag h.bt e (by decide))).trans h.bt, (Below.heap_setCell w ⟨tr, x, none⟩ _ hb (other_tag h.bh e (by decide))).trans h.bh,
    h.gr.other (other_tag h.gr.hdr e (by decide)) hR _, h.rt.upd x, Tb.other h.rh (other_tag h.rh e (by decide)) _⟩
theorem Fw.congr {told' : Nat → Bool} (h : Fw w n b R G gb tb hb tr hr told hm) (e : ∀ x, x < n → told x = told' x) : Fw w n b R G gb tb hb tr hr told' hm := ⟨h.bg, h.bt, h.bh, h.gr, h.rt.congr e, h.rh⟩
theorem Fw.tcell (h : Fw w n b R G gb tb hb tr hr told hm) {x : Nat} (hx : x < n) : w.cell? ⟨tr, x, none⟩ = some (.bool (told x)) := h.rt.cell hx
theorem Fw.tfree (h : Fw w n b R G gb tb hb tr hr told hm) (x : Nat) : w.frozen? ⟨tr, x, none⟩ = false := Tb.free h.rt x
end
theorem upd_take (told : Nat → Bool) (p : List Nat) (j : Nat) (hj : j < p.length) (x : Nat) : upd (fun x => told x || decide (x ∈ p.take j)) p[j] x = (told x || decide (x ∈ p.take (j + 1))) := by
  rw [List.take_succ_eq_append_getElem hj]
  simp only [upd, List.mem_append, List.mem_singleton, Bool.decide_or, Bool.or_assoc]
  congr 2
theorem take_all (told : Nat → Bool) (p : List Nat) : (fun x => told x || decide (x ∈ p.take p.length)) = fun x => told x || decide (x ∈ p) := by rw [List.take_length]
/-- Whether a part may be told, as a bool. -/
noncomputable def fb (n : Nat) (G : Nat → Nat → Bool) (told : Nat → Bool) (hm : Nat → Nat) (p : List Nat) : Bool := @decide (∀ x, x ∈ p → Hf n G told hm (hd p) x n) (Classical.propDecidable _)
theorem fb_iff {n : Nat} {G : Nat → Nat → Bool} {told : Nat → Bool} {hm : Nat → Nat} {p : List Nat} : fb n G told hm p = true ↔ ∀ x, x ∈ p → Hf n G told hm (hd p) x n := by simp [fb]

end Go.Proofs.Ytnfjfpiijikniaa.Gp
