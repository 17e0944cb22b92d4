/-
  What stands between two rounds of the second pass of graph.components: words, and that they abide what the loop's own book-keeping turns. No program's function is walked here. No conditions.
-/
import Derived.Test.YtnfjfpiijikniaaSn
import Derived.RangeFuncBox
namespace Go.Proofs.Ytnfjfpiijikniaa.Gp
open Go.RowKit Go.Shelf
set_option linter.unusedVariables false

/-- A slice's own row is no block of another type. -/
theorem own_tag {w : World} {base : Nat} {e t : TypeId} {v : Value} {n r : Nat} {xs : List Value} {cs : Array Value} {fr : Nat × Nat} (h : w.ownsRow base e 1 v n xs) (hr : w.heap[r]? = some (.cells cs t fr)) (hne : t ≠ e) : some r ≠ v.ownBlock := by
  rcases h.2 with ⟨rfl, _⟩ | ⟨g, cap, cur, rfl, _, hh, _⟩
  · simp [Value.ownBlock]
  · intro e1
    have : r = g := by simpa [Value.ownBlock] using e1
    subst this
    rw [hh] at hr
    simp only [Option.some.injEq, Obj.cells.injEq] at hr
    exact hne hr.2.1.symm
theorem iv_one (l : List Nat) : ∀ u ∈ iv l, u.oneCell' = true := fun u hu => by
  unfold iv at hu
  obtain ⟨x, _, rfl⟩ := List.mem_map.1 hu
  rfl
theorem Fst.len {E : Nat → Nat → Prop} {m k : Nat} {L : List Nat} {seen : Nat → Bool} (h : Fst E m k L seen) : L.length ≤ m := by
  have := h.nd.length_le_of_subset (l₂ := List.range m) (fun x hx => List.mem_range.2 (h.inn x hx))
  simpa using this
theorem Lft.len {E : Nat → Nat → Prop} {m f : Nat} {l : List Nat} {seen : Nat → Bool} (h : Lft E m seen f l) : l.length ≤ m := by
  have := h.nd.length_le_of_subset (l₂ := List.range m) (fun x hx => List.mem_range.2 (h.inn x hx).2.1)
  simpa using this
theorem eg_turn (n : Nat) (G : Nat → Nat → Bool) : Eg n (fun i j => G j i) = fun x y => Eg n G y x := by
  funext x y
  refine propext ⟨fun h => ⟨h.2.1, h.1, h.2.2⟩, fun h => ⟨h.2.1, h.1, h.2.2⟩⟩
theorem own_mono {w : World} {base base' : Nat} {e : TypeId} {v : Value} {n : Nat} {xs : List Value} (h : w.ownsRow base e 1 v n xs) (hb : base' ≤ base) : w.ownsRow base' e 1 v n xs := by
  refine ⟨h.1, ?_⟩
  rcases h.2 with h0 | ⟨g, cap, cur, hv, hg, hr⟩
  · exact .inl h0
  · exact .inr ⟨g, cap, cur, hv, by omega, hr⟩
theorem ir_own {w : World} {base g n c : Nat} {l : List Nat} (h : w.ownsRow base 3 1 (.slice (some ⟨g, 0, none⟩) n c) n (iv l)) (hn : n = l.length) : Ir w (.slice (some ⟨g, 0, none⟩) n c) l := by
  rcases h.2 with ⟨h0, _⟩ | ⟨g', cap, cur, hv, _, hh, _, _, _, ht⟩
  · cases h0
  · simp only [Value.slice.injEq, Option.some.injEq, Addr.mk.injEq] at hv
    obtain ⟨⟨rfl, _⟩, _, rfl⟩ := hv
    refine ⟨g, c, cur, by rw [hn], hh, fun j x hx => ?_⟩
    have hj : j < n := by rw [hn]; exact (List.getElem?_eq_some_iff.1 hx).1
    have h1 : (cur.toList.take (n * 1))[j]? = (iv l)[j]? := by rw [ht]
    rw [List.getElem?_take_of_lt (by omega), Array.getElem?_toList] at h1
    rw [h1]
    unfold iv
    rw [List.getElem?_map, hx]
    rfl
/-- All blocks of cells are as they were. -/
def Kc (w w' : World) : Prop := ∀ (b : Nat) (o : Obj), w.heap[b]? = some o → o.isCells = true → w'.heap[b]? = some o
theorem Kc.of_own {w w' : World} {row : Option Nat} (hg : w.grownBy w' row) (hr : ∀ r, row = some r → ∃ o : Obj, w.heap[r]? = some o ∧ o.isCells = false) : Kc w w' := fun b o hb hc => (hg.block b (lt_of_block hb) (fun e => by
  obtain ⟨o', ho, hc'⟩ := hr b e.symm
  rw [hb] at ho
  cases ho
  rw [hc] at hc'; cases hc')).trans hb
theorem Kc.tb {w w' : World} {b : Nat} {t : TypeId} {f : Nat → Value} {n : Nat} (h : Kc w w') (k : Tb w b t f n) : Tb w' b t f n := h b _ k rfl
theorem Kc.boxed {w w' : World} {b : Nat} {t : TypeId} {v : Value} (h : Kc w w') (k : Boxed w b t v) : Boxed w' b t v := h b _ k rfl
theorem Kc.gr {w w' : World} {b n : Nat} {R : Nat → Nat} {G : Nat → Nat → Bool} (h : Kc w w') (k : Gr w b R n G) : Gr w' b R n G := ⟨h.tb k.hdr, fun i hi => h.tb (k.row i hi), k.one⟩
theorem Kc.ut {w w' : World} {t : TypeId} (h : Kc w w') : Ut t w w' := fun b cs hb => h b _ hb rfl
theorem Kc.own {w w' : World} {base : Nat} {e : TypeId} {v : Value} {n : Nat} {xs : List Value} (h : Kc w w') (k : w.ownsRow base e 1 v n xs) : w'.ownsRow base e 1 v n xs := by
  refine ⟨k.1, ?_⟩
  rcases k.2 with h0 | ⟨g, cap, cur, hv, hg, hh, hr⟩
  · exact .inl h0
  · exact .inr ⟨g, cap, cur, hv, hg, h g _ hh rfl, hr⟩
theorem Kc.pr {w w' : World} {base : Nat} {v : Value} {ps : List (List Nat)} (h : Kc w w') (k : Pr w base v ps) : Pr w' base v ps := by
  obtain ⟨hs, ho, hi⟩ := k
  exact ⟨hs, h.own ho, fun i p hp => by obtain ⟨x, h1, h2⟩ := hi i p hp; exact ⟨x, h1, h2.ut h.ut⟩⟩

/-- Between two rounds: the marks, the boxes, the parts so far. -/
structure Ck (w : World) (H n s sb tb pb bT : Nat) (RT : Nat → Nat) (G : Nat → Nat → Bool) (LL : List (Th n)) (pre : List (Ty n)) (W : World) (ps : List (List Nat)) (seen : Nat → Bool) (v : Value) : Prop where
  row : Br W s seen n
  shut : ∀ x y, seen x = true → Eg n (fun i j => G j i) x y → seen y = true
  bs : Boxed W sb 38 (.slice (some ⟨s, 0, none⟩) n n)
  bt : Boxed W tb 40 (.slice (some ⟨bT, 0, none⟩) n n)
  bp : Boxed W pb 25 v
  prt : Pr W H v ps
  grf : Gr W bT RT n (fun i j => G j i)
  bel : Below w.heap.size w W
  size : H ≤ W.heap.size
  snd : pre <+: seq LL → Snd (Eg n G) n (pre.reverse.map (fun x => x.1.1)) ps seen
  few : ps.length ≤ pre.length
  ne : ∀ p ∈ ps, p ≠ []
  nl : ps = [] → v = .slice none 0 0
theorem ck_own {w : World} {H n s sb tb pb bT : Nat} {RT : Nat → Nat} {G : Nat → Nat → Bool} {LL : List (Th n)} (hH : w.heap.size ≤ H) : OwnFrom H (fun pre W => ∃ ps seen v, Ck w H n s sb tb pb bT RT G LL pre W ps seen v) := by
  rintro pre W W' row ⟨ps, seen, v, h⟩ hg hr
  have hK : Kc W W' := Kc.of_own hg fun r e => (hr r e).2
  exact ⟨ps, seen, v, ⟨hK.tb h.row, h.shut, hK.boxed h.bs, hK.boxed h.bt, hK.boxed h.bp, hK.pr h.prt, hK.gr h.grf, h.bel.grown hg h.bel.size (fun r e => Nat.le_trans hH (hr r e).1), Nat.le_trans h.size hg.size, h.snd, h.few, h.ne, h.nl⟩⟩
theorem ck_pass {w : World} {H n s sb tb pb bT : Nat} {RT : Nat → Nat} {G : Nat → Nat → Bool} {LL : List (Th n)} {pre : List (Ty n)} {W : World} {ps : List (List Nat)} {seen : Nat → Bool} {v : Value} (h : Ck w H n s sb tb pb bT RT G LL pre W ps seen v) (x : Ty n) (hx : seen x.1.1 = true) : Ck w H n s sb tb pb bT RT G LL (pre ++ [x]) W ps seen v :=
  ⟨h.row, h.shut, h.bs, h.bt, h.bp, h.prt, h.grf, h.bel, h.size, fun hp => by
    have := (h.snd ((List.prefix_append pre [x]).trans hp)).pass hx
    simpa using this, by have := h.few; simp; omega, h.ne, h.nl⟩

/-- The part, rising, that a walk against the edges left. -/
noncomputable def srt (n : Nat) (q : List Nat) : List Nat := (List.range n).filter fun x => decide (x ∈ q)
theorem srt_rises (n : Nat) (q : List Nat) : (srt n q).Pairwise (· < ·) := (range_lt n).filter _
theorem mem_srt {n : Nat} {q : List Nat} (hq : ∀ x, x ∈ q → x < n) (x : Nat) : x ∈ q ↔ x ∈ srt n q := by
  simp only [srt, List.mem_filter, List.mem_range, decide_eq_true_eq]
  exact ⟨fun h => ⟨hq x h, h⟩, fun h => h.2⟩
theorem val_seq {n : Nat} (LL : List (Th n)) : (seq LL).map (fun x => x.1.1) = (LL.map (·.1)).reverse := by
  unfold seq
  rw [List.map_reverse]
  congr 1
  apply List.ext_getElem
  · simp
  · intro i h1 h2
    simp

/-- The marks, and the parts, behind a walk. -/
theorem snd_step {n : Nat} {G : Nat → Nat → Bool} {LL : List (Th n)} {L : List Nat} {sf : Nat → Bool} (hLL : LL.map (·.1) = L) (hf : Fst (Eg n G) n n L sf) {pre : List (Ty n)} {x : Ty n} {ps : List (List Nat)} {seen : Nat → Bool}
    (h : Snd (Eg n G) n (pre.reverse.map (fun x => x.1.1)) ps seen) (hp : pre ++ [x] <+: seq LL) (hx : seen x.1.1 = false) {q : List Nat} (hl : Lft (Eg n (fun i j => G j i)) n seen x.1.1 q) :
    Snd (Eg n G) n ((pre ++ [x]).reverse.map (fun x => x.1.1)) (ps ++ [srt n q]) (fun y => seen y || decide (y ∈ q)) := by
  obtain ⟨rest, hr⟩ := hp
  have e1 : L = (rest.map (fun x => x.1.1)).reverse ++ x.1.1 :: pre.reverse.map (fun x => x.1.1) := by
    have := val_seq LL
    rw [hLL, ← hr] at this
    have h2 := congrArg List.reverse this
    rw [List.reverse_reverse] at h2
    rw [← h2]
    simp
  rw [e1] at hf
  rw [eg_turn] at hl
  have hall : ∀ y, y < n → y ∈ (rest.map (fun x => x.1.1)).reverse ++ x.1.1 :: pre.reverse.map (fun x => x.1.1) := fun y hy => hf.upto y hy
  have hfi := h.finds (eg_in n G) hf hall hx hl
  have hs : srt n q = cmp (Eg n G) n x.1.1 := rises_same (srt_rises n q) (cmp_rises _) fun y => by
    rw [← mem_srt (fun z hz => (hl.inn z hz).2.1), hfi.1]
  have := h.more (eg_in n G) hf hall hx hl
  rw [hs]
  simpa using this

end Go.Proofs.Ytnfjfpiijikniaa.Gp
