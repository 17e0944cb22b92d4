/-
  Words for maps whose keys are structs: what a map's block holds, as a function from keys to values; its operations; a range over it. No program's function is walked here. No conditions.
-/
import Derived.Test.YtgpciipemgljcaaGreatGab
import Derived.Maps.RangeWalk
import Derived.DeepKeys4
import Derived.Test.YtgpciipemgljcaaGreatGaa
import Derived.Deep.AppendLies
import Derived.Deep.LoopGhost
namespace Go.Proofs.YtgpciipemgljcaaGreat.Od
open Go.RowKit Go.MapKept
open Go.ChangeMaps (setBlock heap_setBlock_same heap_setBlock_other)
open Go.Maps (Keyed)
set_option linter.unusedVariables false

/-- How keys of a kind are values. -/
structure Kd (α : Type) where
  k : TypeId
  val : α → Value
  ok : α → Prop
structure Kd.Good {α : Type} (d : Kd α) : Prop where
  law : Keyed Tryz.prog d.k
  key : ∀ a, d.ok a → ∃ l, keyOf Tryz.prog d.k (d.val a) = some l
  inj : ∀ a b, d.val a = d.val b → a = b

theorem laidOut : laidOutB Tryz.prog = true := by kernel_rfl
theorem kt25 : Tryz.prog.keyType 25 = true := by kernel_rfl
set_option maxRecDepth 100000 in
theorem law25 : Keyed Tryz.prog 25 := Keyed.of_law (deep_law_laid laidOut (m := Tryz.prog.types.size + 1) (of_decide_eq_true (by kernel_rfl)) (of_decide_eq_true (by kernel_rfl)) kt25 (by rw [Tryz.underlying25]))


theorem ts : Tryz.prog.types.size + 1 = 179 + 1 + 1 := by kernel_rfl
theorem co25 : Tryz.prog.cellsOf 25 = 2 := by kernel_rfl
theorem co3 : Tryz.prog.cellsOf 3 = 1 := by kernel_rfl

theorem lits25 (n : Nat) (a b : Int) (ha : fits a) (hb : fits b) : Tryz.prog.keyLits (n + 1 + 1) 25 [.int .i64 a, .int .i64 b] = some [.int .i64 a, .int .i64 b] := by
  simp [Program.keyLits, Tryz.underlying25, co25, co3, Tryz.underlying3, ha.wf, hb.wf]
theorem key25 (a b : Int) (ha : fits a) (hb : fits b) : ∃ l, keyOf Tryz.prog 25 (.agg #[.int .i64 a, .int .i64 b]) = some l := by
  have fm : (Value.agg #[.int .i64 a, .int .i64 b]).formed Tryz.prog 25 = true := by simp [Value.formed, Tryz.underlying25, co25]
  unfold keyOf
  rw [Tryz.underlying25, ts]
  simp only [kt25, fm, Bool.and_self, if_true, Value.cells, lits25 179 a b ha hb, Option.map_some]
  exact ⟨_, rfl⟩

def dI : Kd (Int × Int) := ⟨25, iv, fun p => fits p.1 ∧ fits p.2⟩
theorem goodI : dI.Good := ⟨law25, fun a h => key25 _ _ h.1 h.2, fun a b h => by
  obtain ⟨a1, a2⟩ := a
  obtain ⟨b1, b2⟩ := b
  simp only [dI, iv, Value.agg.injEq, Array.mk.injEq, List.cons.injEq, Value.int.injEq, true_and, and_true] at h
  rw [h.1, h.2]⟩

section
variable {α : Type} {d : Kd α}

/-- What a map's block holds: at each key that value. -/
structure Ent (d : Kd α) (es : Array MapEntry) (clock : Nat) (f : α → Option Value) : Prop where
  st : Stamped es clock
  ks : ∀ e ∈ es.toList, ∃ a, d.ok a ∧ e.key = d.val a
  at_ : ∀ a v, f a = some v ↔ ∃ e ∈ es.toList, e.key = d.val a ∧ e.val = v

/-- An object that is a map of c entries, which holds f. -/
def Mo (d : Kd α) (o : Option Obj) (f : α → Option Value) (c : Nat) : Prop := ∃ es clock, o = some (.map es clock) ∧ Ent d es clock f ∧ es.size = c

theorem mo_new : Mo d (some (.map #[] 0)) (fun _ => none) 0 := ⟨#[], 0, rfl, ⟨stamped_empty 0, by simp, by simp⟩, rfl⟩

/-- The function with another value at a key. -/
def upd [DecidableEq α] (f : α → Option Value) (a : α) (v : Option Value) : α → Option Value := fun x => if x = a then v else f x

theorem idx_eq {l : List MapEntry} (h : l.Pairwise (fun x y => x.key ≠ y.key)) {i j : Nat} {x y : MapEntry} (hi : l[i]? = some x) (hj : l[j]? = some y) (hk : x.key = y.key) : i = j := by
  obtain ⟨hi1, rfl⟩ := List.getElem?_eq_some_iff.1 hi
  obtain ⟨hj1, rfl⟩ := List.getElem?_eq_some_iff.1 hj
  have := List.pairwise_iff_getElem.1 h
  rcases Nat.lt_trichotomy i j with hl | hl | hl
  · exact absurd hk (this i j hi1 hj1 hl)
  · exact hl
  · exact absurd hk.symm (this j i hj1 hi1 hl)

theorem Ent.keys (G : d.Good) {es clock f} (E : Ent d es clock f) : ∀ e ∈ es.toList, ∃ l, keyOf Tryz.prog d.k e.key = some l := fun e he => by
  obtain ⟨a, ha, hk⟩ := E.ks e he
  rw [hk]
  exact G.key a ha

/-- Whether a key is there, and where. -/
theorem Ent.find (G : d.Good) {es clock f} (E : Ent d es clock f) {a : α} (ha : d.ok a) :
    (f a = none ∧ (∀ e ∈ es.toList, e.key ≠ d.val a) ∧ ∀ W, (Instr.findKey d.k (d.val a) es.toList).run Tryz.prog W = .ok none W) ∨
    ∃ j e, f a = some e.val ∧ es.toList[j]? = some e ∧ e.key = d.val a ∧ ∀ W, (Instr.findKey d.k (d.val a) es.toList).run Tryz.prog W = .ok (some (j, e.val)) W := by
  obtain ⟨l, hl⟩ := G.key a ha
  by_cases h : ∃ e ∈ es.toList, e.key = d.val a
  · obtain ⟨e, he, hk⟩ := h
    obtain ⟨j, hj⟩ := List.getElem?_of_mem he
    refine .inr ⟨j, e, (E.at_ a e.val).2 ⟨e, he, hk, rfl⟩, hj, hk, fun W => ?_⟩
    rcases G.law.find W hl es.toList (E.keys G) with ⟨_, h2⟩ | ⟨j', e', h1, h2, h3⟩
    · exact absurd hk (h2 e he)
    · obtain rfl := idx_eq ((stamped_iff _ _).1 E.st).2.2 hj h2 (hk.trans h3.symm)
      rw [hj] at h2
      cases h2
      exact h1
  · have hn : ∀ e ∈ es.toList, e.key ≠ d.val a := fun e he hk => h ⟨e, he, hk⟩
    refine .inl ⟨?_, hn, fun W => ?_⟩
    · cases hf : f a with
      | none => rfl
      | some v =>
        obtain ⟨e, he, hk, _⟩ := (E.at_ a v).1 hf
        exact absurd hk (hn e he)
    · rcases G.law.find W hl es.toList (E.keys G) with ⟨h1, _⟩ | ⟨j', e', h1, h2, h3⟩
      · exact h1
      · exact absurd h3 (hn e' (List.mem_of_getElem? h2))

/-- 'm[k]'. -/
theorem Mo.look (G : d.Good) {o f c} (h : Mo d o f c) {a : α} (ha : d.ok a) {t e : TypeId} {z : Value} (ht : Tryz.prog.underlying t = some (.map d.k e)) (hz : ∀ W, (zeroValue e).run Tryz.prog W = .ok z W) (b : Nat) (W : World) (hW : W.heap[b]? = o) :
    (Instr.lookup t (.map (some b)) (d.val a) false).run Tryz.prog W = .ok ((f a).getD z) W := by
  obtain ⟨es, clock, rfl, E, _⟩ := h
  obtain ⟨l, hl⟩ := G.key a ha
  rcases E.find G ha with ⟨h1, _, h3⟩ | ⟨j, e0, h1, _, _, h3⟩
  · simp [Instr.lookup, run_underlying ht, MapKept.run_getObj_map hW, G.law.check W _ hl, h3, hz, Result.andThen, h1]
  · simp [Instr.lookup, run_underlying ht, MapKept.run_getObj_map hW, G.law.check W _ hl, h3, Result.andThen, h1]

/-- 'len(m)'. -/
theorem Mo.len {o f c} (h : Mo d o f c) {t e : TypeId} (ht : Tryz.prog.underlying t = some (.map d.k e)) (ty : TypeId) (b : Nat) (W : World) (hW : W.heap[b]? = o) :
    (Builtin.len_ #[t] ty #[.map (some b)]).run Tryz.prog W = .ok (.int .i64 (c : Int)) W := by
  obtain ⟨es, clock, rfl, E, rfl⟩ := h
  simp [Builtin.len_, run_underlying ht, MapKept.run_getObj_map hW, goInt, Result.andThen]

/-- 'm[k] = v'. -/
theorem Mo.put [DecidableEq α] (G : d.Good) {o f c} (h : Mo d o f c) {a : α} (ha : d.ok a) {t e : TypeId} (ht : Tryz.prog.underlying t = some (.map d.k e)) (v : Value) (b : Nat) :
    ∃ o', (∀ W : World, W.heap[b]? = o → (Instr.mapUpdate t (.map (some b)) (d.val a) v).run Tryz.prog W = .ok () (setBlock W b o')) ∧ Mo d (some o') (upd f a (some v)) (if (f a).isSome then c else c + 1) := by
  obtain ⟨es, clock, rfl, E, rfl⟩ := h
  obtain ⟨l, hl⟩ := G.key a ha
  rcases E.find G ha with ⟨h1, h2, h3⟩ | ⟨j, e0, h1, h2, hk, h3⟩
  · refine ⟨.map (es.push ⟨d.val a, v, clock⟩) (clock + 1), fun W hW => ?_, es.push ⟨d.val a, v, clock⟩, clock + 1, rfl, ⟨stamped_push E.st h2, fun x hx => ?_, fun x u => ?_⟩, by simp [h1]⟩
    · simp [Instr.mapUpdate, run_underlying ht, MapKept.run_getObj_map hW, G.law.check W false hl, h3, MapKept.run_setObj_map _ hW, Result.andThen, setBlock]
    · simp only [Array.toList_push, List.mem_append, List.mem_singleton] at hx
      rcases hx with hx | rfl
      · exact E.ks x hx
      · exact ⟨a, ha, rfl⟩
    · simp only [Array.toList_push, List.mem_append, List.mem_singleton, upd]
      by_cases hx : x = a
      · subst hx
        rw [if_pos rfl]
        constructor
        · intro h; cases h; exact ⟨_, .inr rfl, rfl, rfl⟩
        · rintro ⟨y, hy | rfl, h5, h6⟩
          · exact absurd h5 (h2 y hy)
          · rw [← h6]
      · rw [if_neg hx, E.at_]
        constructor
        · rintro ⟨y, hy, h5, h6⟩; exact ⟨y, .inl hy, h5, h6⟩
        · rintro ⟨y, hy | rfl, h5, h6⟩
          · exact ⟨y, hy, h5, h6⟩
          · exact absurd (G.inj _ _ h5).symm hx
  · have hj : es[j]? = some e0 := by simpa using h2
    have hlist : (es.modify j (fun e' => { e' with key := d.val a, val := v })).toList = es.toList.set j { e0 with key := d.val a, val := v } := by rw [Array.toList_modify, ChangeMaps.modify_eq_set _ _ _ _ h2]
    have hjl : j < es.toList.length := (List.getElem?_eq_some_iff.1 h2).1
    have hst := ((stamped_iff _ _).1 E.st).2.2
    have hkeyf : ∀ e', es[j]? = some e' → ({ e' with key := d.val a, val := v } : MapEntry).key = e'.key := fun e' he' => by rw [hj] at he'; cases he'; exact hk.symm
    have who : ∀ x, x ∈ es.toList.set j { e0 with key := d.val a, val := v } ↔ x = { e0 with key := d.val a, val := v } ∨ (x ∈ es.toList ∧ x.key ≠ d.val a) := by
      intro x
      constructor
      · intro hx
        obtain ⟨i, hi⟩ := List.getElem?_of_mem hx
        rw [List.getElem?_set] at hi
        split at hi
        · first
            | (cases hi; exact .inl rfl)
            | (split at hi
               · cases hi; exact .inl rfl
               · cases hi)
        · rename_i hne
          refine .inr ⟨List.mem_of_getElem? hi, fun hxk => hne ?_⟩
          exact idx_eq hst h2 hi (hk.trans hxk.symm)
      · rintro (rfl | ⟨hx, hxk⟩)
        · exact List.mem_of_getElem? (i := j) (by rw [List.getElem?_set, if_pos rfl, if_pos hjl])
        · obtain ⟨i, hi⟩ := List.getElem?_of_mem hx
          have hne : j ≠ i := fun e1 => by
            subst e1
            rw [h2] at hi
            cases hi
            exact hxk hk
          exact List.mem_of_getElem? (i := i) (by rw [List.getElem?_set, if_neg hne]; exact hi)
    refine ⟨.map (es.modify j (fun e' => { e' with key := d.val a, val := v })) clock, fun W hW => ?_, es.modify j (fun e' => { e' with key := d.val a, val := v }), clock, rfl, ⟨stamped_modify E.st _ _ (fun _ _ => rfl) (fun e' _ he' => hkeyf e' he'), fun x hx => ?_, fun x u => ?_⟩, by simp [h1]⟩
    · simp [Instr.mapUpdate, run_underlying ht, MapKept.run_getObj_map hW, G.law.check W false hl, h3, hj, hk, G.law.stays W hl, MapKept.run_setObj_map _ hW, Result.andThen, setBlock]
    · rw [hlist] at hx
      rcases (who x).1 hx with rfl | ⟨hx, _⟩
      · exact ⟨a, ha, rfl⟩
      · exact E.ks x hx
    · simp only [hlist, upd]
      by_cases hx : x = a
      · subst hx
        rw [if_pos rfl]
        constructor
        · intro h; cases h; exact ⟨_, (who _).2 (.inl rfl), rfl, rfl⟩
        · rintro ⟨y, hy, h5, h6⟩
          rcases (who y).1 hy with rfl | ⟨_, h7⟩
          · rw [← h6]
          · exact absurd h5 h7
      · rw [if_neg hx, E.at_]
        constructor
        · rintro ⟨y, hy, h5, h6⟩; exact ⟨y, (who y).2 (.inr ⟨hy, fun h7 => hx (G.inj _ _ (h5.symm.trans h7))⟩), h5, h6⟩
        · rintro ⟨y, hy, h5, h6⟩
          rcases (who y).1 hy with rfl | ⟨h7, _⟩
          · exact absurd (G.inj _ _ h5).symm hx
          · exact ⟨y, h7, h5, h6⟩

/-- 'delete(m, k)'. -/
theorem Mo.del [DecidableEq α] (G : d.Good) {o f c} (h : Mo d o f c) {a : α} (ha : d.ok a) {t e : TypeId} (ht : Tryz.prog.underlying t = some (.map d.k e)) (b : Nat) :
    ∃ o', (∀ (W : World) (ty : TypeId), W.heap[b]? = o → (Builtin.delete_ #[t, d.k] ty #[.map (some b), d.val a]).run Tryz.prog W = .ok (.tuple #[]) (setBlock W b o')) ∧ Mo d (some o') (upd f a none) (if (f a).isSome then c - 1 else c) := by
  obtain ⟨es, clock, rfl, E, rfl⟩ := h
  obtain ⟨l, hl⟩ := G.key a ha
  rcases E.find G ha with ⟨h1, h2, h3⟩ | ⟨j, e0, h1, h2, hk, h3⟩
  · refine ⟨.map es clock, fun W ty hW => ?_, es, clock, rfl, ⟨E.st, E.ks, fun x u => ?_⟩, by simp [h1]⟩
    · simp [Builtin.delete_, run_underlying ht, MapKept.run_getObj_map hW, G.law.check W _ hl, h3, MapKept.run_setObj_map _ hW, Result.andThen, setBlock]
    · unfold upd
      split
      · rename_i hx; subst hx
        constructor
        · intro h; cases h
        · rintro ⟨y, hy, h5, _⟩; exact absurd h5 (h2 y hy)
      · exact E.at_ x u
  · have hjl : j < es.toList.length := (List.getElem?_eq_some_iff.1 h2).1
    have hjs : j < es.size := by simpa using hjl
    have hsub : (es.eraseIdxIfInBounds j).toList = es.toList.eraseIdx j := by
      unfold Array.eraseIdxIfInBounds
      rw [dif_pos hjs]
      simp
    have hst := ((stamped_iff _ _).1 E.st).2.2
    have who : ∀ x, x ∈ es.toList.eraseIdx j ↔ x ∈ es.toList ∧ x.key ≠ d.val a := by
      intro x
      rw [List.mem_eraseIdx_iff_getElem?]
      constructor
      · rintro ⟨i, hne, hi⟩
        exact ⟨List.mem_of_getElem? hi, fun hxk => hne (idx_eq hst hi h2 (hxk.trans hk.symm))⟩
      · rintro ⟨hx, hxk⟩
        obtain ⟨i, hi⟩ := List.getElem?_of_mem hx
        refine ⟨i, fun e1 => hxk ?_, hi⟩
        rw [e1, h2] at hi
        cases hi
        exact hk
    refine ⟨.map (es.eraseIdxIfInBounds j) clock, fun W ty hW => ?_, es.eraseIdxIfInBounds j, clock, rfl, ⟨stamped_erase E.st j, fun x hx => ?_, fun x u => ?_⟩, ?_⟩
    · simp [Builtin.delete_, run_underlying ht, MapKept.run_getObj_map hW, G.law.check W _ hl, h3, MapKept.run_setObj_map _ hW, Result.andThen, setBlock]
    · rw [hsub] at hx
      exact E.ks x ((who x).1 hx).1
    · simp only [hsub, upd]
      by_cases hx : x = a
      · subst hx
        rw [if_pos rfl]
        constructor
        · intro h; cases h
        · rintro ⟨y, hy, h5, _⟩; exact absurd h5 ((who y).1 hy).2
      · rw [if_neg hx, E.at_]
        constructor
        · rintro ⟨y, hy, h5, h6⟩; exact ⟨y, (who y).2 ⟨hy, fun h7 => hx (G.inj _ _ (h5.symm.trans h7))⟩, h5, h6⟩
        · rintro ⟨y, hy, h5, h6⟩; exact ⟨y, ((who y).1 hy).1, h5, h6⟩
    · rw [h1]
      simp only [Option.isSome_some, if_true]
      have := congrArg List.length hsub
      rw [List.length_eraseIdx_of_lt hjl, Array.length_toList, Array.length_toList] at this
      exact this

/-- A range over a map under way: 'left' says which keys are still to come, cnt how many. -/
def Rg (d : Kd α) (b : Nat) (ob oi : Option Obj) (f : α → Option Value) (left : α → Prop) (cnt : Nat) : Prop :=
  ∃ es clock since seen c0, ob = some (.map es clock) ∧ Ent d es clock f ∧ oi = some (.mapIter (some b) since seen c0) ∧ (∀ x ∈ es.toList, x.born < since) ∧ (leftOf es seen).size = cnt ∧
    (∀ a, left a ↔ ∃ e ∈ es.toList, e.key = d.val a ∧ seen.contains e.born = false) ∧ since ≤ c0 ∧ since ≤ clock

theorem Rg.left_eq {w : World} {b r : Nat} {f : α → Option Value} {left : α → Prop} {cnt : Nat} (h : Rg d b w.heap[b]? w.heap[r]? f left cnt) : w.rangeLeft b r = cnt := by
  obtain ⟨es, clock, since, seen, c0, hb, _, hr, _, hc, _⟩ := h
  simp only [World.rangeLeft, hb, hr]
  exact hc
theorem Rg.mo {b : Nat} {ob oi : Option Obj} {f : α → Option Value} {left : α → Prop} {cnt : Nat} (h : Rg d b ob oi f left cnt) : ∃ c, Mo d ob f c := by
  obtain ⟨es, clock, since, seen, c0, hb, E, _⟩ := h
  exact ⟨_, es, clock, hb, E, rfl⟩

/-- 'range m'. -/
theorem Mo.range {o : Option Obj} {f : α → Option Value} {c : Nat} (h : Mo d o f c) {t e : TypeId} (ht : Tryz.prog.underlying t = some (.map d.k e)) (b : Nat) (w : World) (hW : w.heap[b]? = o) :
    ∃ oi, (Instr.range t (.map (some b))).run Tryz.prog w = .ok (.pointer (some ⟨w.heap.size, 0, none⟩)) (w.alloc oi) ∧ ∃ cnt, Rg d b o (some oi) f (fun a => ∃ v, f a = some v) cnt := by
  obtain ⟨es, clock, rfl, E, _⟩ := h
  refine ⟨.mapIter (some b) clock #[] clock, run_range_map w t d.k e b es clock ht hW, _, es, clock, clock, #[], clock, rfl, E, rfl, E.st.1, rfl, fun a => ?_, Nat.le_refl _, Nat.le_refl _⟩
  constructor
  · rintro ⟨v, hv⟩
    obtain ⟨x, hx, h1, _⟩ := (E.at_ a v).1 hv
    exact ⟨x, hx, h1, by simp⟩
  · rintro ⟨x, hx, h1, _⟩
    exact ⟨x.val, (E.at_ a x.val).2 ⟨x, hx, h1, rfl⟩⟩

/-- The step. -/
theorem Rg.next (G : d.Good) {w : World} {b r : Nat} {f : α → Option Value} {left : α → Prop} {cnt : Nat} (h : Rg d b w.heap[b]? w.heap[r]? f left cnt) (ty : TypeId) :
    ((∀ a, ¬ left a) ∧ (Instr.next (.pointer (some ⟨r, 0, none⟩)) false ty).run Tryz.prog w = .ok (.tuple #[.bool false]) w) ∨
    ∃ a v w' cnt', d.ok a ∧ left a ∧ f a = some v ∧ (Instr.next (.pointer (some ⟨r, 0, none⟩)) false ty).run Tryz.prog w = .ok (.tuple #[.bool true, d.val a, v]) w' ∧
      Rg d b w'.heap[b]? w'.heap[r]? f (fun x => left x ∧ x ≠ a) cnt' ∧ cnt' < cnt ∧ w.grownBy w' (some r) ∧ w'.heap.size = w.heap.size ∧ (Instr.entry (.pointer (some ⟨r, 0, none⟩))).run Tryz.prog w' = .ok (.tuple #[d.val a, v]) w' := by
  obtain ⟨es, clock, since, seen, c0, hb, E, hr, hold, rfl, hl, hsc, hsk⟩ := h
  have hne : r ≠ b := by
    intro e
    rw [e, hb] at hr
    cases hr
  rcases run_next_at (P := Tryz.prog) w ty r b since c0 seen es clock hr hb hold hsc with ⟨h0, hrun⟩ | ⟨e, he, w1, hal, hrun⟩
  · refine .inl ⟨fun a ha => ?_, hrun⟩
    obtain ⟨x, hx, _, h2⟩ := (hl a).1 ha
    rw [all_seen es seen h0 x hx] at h2
    cases h2
  · obtain ⟨hem, hes⟩ := mem_left he
    obtain ⟨a, hok, hka⟩ := E.ks e hem
    have hr1 : w1.heap[r]? = some (.mapIter (some b) since seen c0) := by rcases hal with rfl | rfl <;> exact hr
    have hb1 : w1.heap[b]? = some (.map es clock) := by rcases hal with rfl | rfl <;> exact hb
    have hset := heap_set (o' := .mapIter (some b) since (seen.push e.born) clock) hr1
    have hb' : (setBlock w1 r (.mapIter (some b) since (seen.push e.born) clock)).heap[b]? = some (.map es clock) := (hset.2 b (fun e1 => hne e1.symm)).trans hb1
    have hst := (stamped_iff es clock).1 E.st
    refine .inr ⟨a, e.val, _, _, hok, (hl a).2 ⟨e, hem, hka, hes⟩, (E.at_ a e.val).2 ⟨e, hem, hka, rfl⟩, by rw [← hka]; exact hrun,
      ⟨es, clock, since, seen.push e.born, clock, hb', E, hset.1, hold, rfl, fun x => ?_, hsk, hsk⟩, left_shrinks es seen e he, ?_, ?_,
      by rw [← hka]; exact run_entry_at _ r b since seen es clock e hset.1 hb' hem hst.2.1⟩
    · show (left x ∧ x ≠ a) ↔ _
      rw [hl x]
      constructor
      · rintro ⟨⟨y, hy, h1, h2⟩, hxa⟩
        refine ⟨y, hy, h1, ?_⟩
        rw [contains_push, h2]
        simp only [Bool.false_or, beq_eq_false_iff_ne]
        intro hbe
        obtain rfl := born_inj hst.2.1 hy hem hbe
        exact hxa (G.inj _ _ (h1.symm.trans hka))
      · rintro ⟨y, hy, h1, h2⟩
        rw [contains_push] at h2
        simp only [Bool.or_eq_false_iff, beq_eq_false_iff_ne] at h2
        refine ⟨⟨y, hy, h1, h2.1⟩, fun hxa => h2.2 ?_⟩
        subst hxa
        rw [entry_eq_of_key hst.2.2 hy hem (h1.trans hka.symm)]
    · rcases hal with rfl | rfl <;> exact ⟨rfl, rfl, rfl, by simp [setBlock], fun i _ hi => hset.2 i (fun e1 => hi (by rw [e1]))⟩
    · rcases hal with rfl | rfl <;> simp [setBlock]

end

end Go.Proofs.YtgpciipemgljcaaGreat.Od

/-
  The walks of graph.has, graph.empty, graph.read and graph.turned. Conditions: at most 100 things, at most 1000 edges.
-/
namespace Go.Proofs.YtgpciipemgljcaaGreat.Gp
open Go.RowKit
set_option linter.unusedVariables false

theorem has_any (A : Option Addr) (n c : Nat) (x : Int) (r : Bool) (hr : r = decide (0 ≤ x ∧ x < (n : Int))) (w : World) : Calls Tryz.prog 68 #[.slice A n c, .int .i64 x] w (fun e w' => e = .returned (.bool r) ∧ w' = w) := by
  by_cases h0 : 0 ≤ x
  · by_cases h1 : x < (n : Int)
    · obtain rfl : r = true := by rw [hr]; simp [h0, h1]
      clear hr
      go_enter Tryz.func68, Tryz.ntmps68
      go_wp2
      go_ret
      exact ⟨rfl, rfl⟩
    · obtain rfl : r = false := by rw [hr]; simp [h1]
      clear hr
      go_enter Tryz.func68, Tryz.ntmps68
      go_wp2
      go_ret
      exact ⟨rfl, rfl⟩
  · obtain rfl : r = false := by rw [hr]; simp [h0]
    clear hr
    go_enter Tryz.func68, Tryz.ntmps68
    go_wp2
    go_ret
    exact ⟨rfl, rfl⟩

set_option maxHeartbeats 1000000 in
theorem empty_any (n : Nat) (hn : n ≤ 1000) (w : World) : Calls Tryz.prog 76 #[.int .i64 (n : Int)] w (GrPost w n (fun _ _ => false)) := by
  obtain ⟨i0, hi, hz0, hz1, hz2⟩ := info_parts info38
  obtain ⟨j0, hj, hy0, hy1, hy2⟩ := info_parts info4
  go_enter Tryz.func76, Tryz.ntmps76
  go_wp2_with (at_make; refine wpList_make_full _ rfl _ _ 83 rfl w.heap.size 41 i0 (.slice none 0 0) 1 (by kernel_rfl) hi hz0 hz1 _ _ _ _ n rfl rfl rfl rfl (by rw [hz2]; omega) (by unfold maxLen; omega) (Nat.le_refl _) ?_; intro w2 hown2 hgrow2)
  have H2 : Tb w2 w.heap.size 41 (fun _ => .slice none 0 0) n := tb_made hown2 rfl
  have B2 : Below w.heap.size w w2 := (Below.refl _ w).grown hgrow2 (Nat.le_refl _) (by simp)
  have hg : w.heap.size ≤ w.heap.size := Nat.le_refl _
  clear hown2 hgrow2 hi hz0 hz1 hz2
  revert hg H2
  generalize hgg : w.heap.size = g
  intro H2 hg
  have HG := Lib.hid hgg
  clear hgg
  rw [HG.out] at B2
  go_loopw [9] (fun t wr => ∃ (k : Nat) (R : Nat → Nat), k ≤ n ∧ t = .int .i64 (k : Int) ∧ Tb wr g 41 (fun i => if i < k then .slice (some ⟨R i, 0, none⟩) n n else .slice none 0 0) n ∧ (∀ i, i < k → Br wr (R i) (fun _ => false) n) ∧ (∀ i j, i < k → j < k → R i = R j → i = j) ∧ (∀ i, i < k → g ≤ R i) ∧ Below g w wr) (fun t _ => n - (intOf t).toNat)
  case atStart => exact ⟨0, fun _ => 0, by omega, rfl, by simpa using H2, fun i h => by omega, fun i j h => by omega, fun i h => by omega, B2⟩
  case round =>
    obtain ⟨k, R, hk, rfl, hH, hR, hone, hlow, hbel⟩ := hrel
    clear H2 B2
    by_cases hlt : k < n
    · have hki : (k : Int) < (n : Int) := by omega
      have hk0 : (0 : Int) ≤ (k : Int) := by omega
      have hsz := hbel.size
      rw [HG.out] at hsz
      have hRl : ∀ i, i < k → R i < wr.heap.size := fun i h => Tb.lt (hR i h)
      have hgl := hH.lt
      have HH := Lib.hid hH
      have HR := Lib.hid hR
      have HO := Lib.hid hone
      have HL := Lib.hid hlow
      have HB := Lib.hid hbel
      have HRl := Lib.hid hRl
      clear hH hR hone hlow hbel hRl
      go_wp2_with (at_make; refine wpList_make_full _ rfl _ _ 41 rfl wr.heap.size 4 j0 (.bool false) 1 (by kernel_rfl) hj hy0 hy1 _ _ _ _ n rfl rfl rfl rfl (by rw [hy2]; omega) (by unfold maxLen; omega) (Nat.le_refl _) ?_; intro w3 hown3 hgrow3; have hc3 := ((HH.out.same (hgrow3.block g hgl (by simp))).cell hlt); have hf3 := (HH.out.same (hgrow3.block g hgl (by simp))).free k)
      have N3 : Br w3 wr.heap.size (fun _ => false) n := tb_made hown3 rfl
      have H3 := HH.out.same (hgrow3.block g hgl (by simp))
      have R3 : ∀ i, i < k → Br w3 (R i) (fun _ => false) n := fun i h => Tb.same (HR.out i h) (hgrow3.block (R i) (HRl.out i h) (by simp))
      have B3 : Below g w w3 := HB.out.grown hgrow3 hsz (by simp)
      have hne : g ≠ wr.heap.size := by omega
      clear hown3 hgrow3 hc3 hf3
      go_roundw
      case rel =>
        obtain ⟨R', r1, r2⟩ : ∃ R' : Nat → Nat, R' k = wr.heap.size ∧ ∀ i, i ≠ k → R' i = R i := ⟨fun i => if i = k then wr.heap.size else R i, if_pos rfl, fun i h => if_neg h⟩
        refine ⟨k + 1, R', by omega, by go_num, ?_, fun i hi2 => ?_, fun i j hi2 hj2 e => ?_, fun i hi2 => ?_, B3.setCell (by show g ≤ g; omega) _⟩
        · refine (H3.set k _).congr fun i hi2 => ?_
          by_cases e : i = k
          · subst e; simp [r1]
          · rw [if_neg e, r2 i e]
            by_cases h2 : i < k
            · rw [if_pos h2, if_pos (by omega)]
            · rw [if_neg h2, if_neg (by omega)]
        · by_cases e : i = k
          · rw [e, r1]; exact Tb.other N3 (fun e2 => hne e2.symm) _
          · rw [r2 i e]
            refine Tb.other (R3 i (by omega)) ?_ _
            exact fun e2 => (H3.apart (R3 i (by omega)) (by decide)) e2.symm
        · by_cases e1 : i = k
          · by_cases e2 : j = k
            · omega
            · rw [e1, r1, r2 j e2] at e
              have := HRl.out j (by omega)
              omega
          · by_cases e2 : j = k
            · rw [e2, r1, r2 i e1] at e
              have := HRl.out i (by omega)
              omega
            · rw [r2 i e1, r2 j e2] at e
              exact HO.out i j (by omega) (by omega) e
        · by_cases e : i = k
          · rw [e, r1]; omega
          · rw [r2 i e]; exact HL.out i (by omega)
      case measure => simp [intOf]; omega
    · obtain rfl : k = n := by omega
      go_wp2
      go_ret
      refine ⟨g, R, rfl, ⟨hH.congr fun i h => by rw [if_pos h], hR, hone⟩, by rw [HG.out]; exact hg, fun i h => by rw [HG.out]; exact hlow i h, by rw [HG.out]; exact hbel⟩

end Go.Proofs.YtgpciipemgljcaaGreat.Gp

/-
  The walks of graph.read and graph.turned. Conditions: at most 1000 things, at most 1000 edges.
-/
namespace Go.Proofs.YtgpciipemgljcaaGreat.Gp
open Go.RowKit
set_option linter.unusedVariables false

theorem ge_iff {l : List (Int × Int)} {a b : Nat} : ge l a b = true ↔ ((a : Int), (b : Int)) ∈ l := by simp [ge]
theorem ge_take {l : List (Int × Int)} {k : Nat} (hk : k < l.length) (i j : Nat) : ge (l.take (k + 1)) i j = true ↔ ge (l.take k) i j = true ∨ l[k] = ((i : Int), (j : Int)) := by
  rw [ge_iff, ge_iff, List.take_succ_eq_append_getElem hk, List.mem_append, List.mem_singleton]
  exact or_congr Iff.rfl eq_comm
theorem ge_out {l : List (Int × Int)} {k m : Nat} (hk : k < l.length) (h : ¬ ((0 ≤ (l[k]).1 ∧ (l[k]).1 < (m : Int)) ∧ (0 ≤ (l[k]).2 ∧ (l[k]).2 < (m : Int)))) {i j : Nat} (hi : i < m) (hj : j < m) : ge (l.take k) i j = ge (l.take (k + 1)) i j := by
  rw [Bool.eq_iff_iff, ge_take hk]
  refine ⟨.inl, fun e => e.elim id fun e => ?_⟩
  rw [e] at h
  exact absurd ⟨⟨by simp, by simp; omega⟩, by simp, by simp; omega⟩ h
theorem ge_hit {l : List (Int × Int)} {k a b : Nat} (hk : k < l.length) (h : l[k] = ((a : Int), (b : Int))) (i j : Nat) : (if i = a ∧ j = b then true else ge (l.take k) i j) = ge (l.take (k + 1)) i j := by
  rw [Bool.eq_iff_iff, ge_take hk, h]
  by_cases e : i = a ∧ j = b
  · rw [if_pos e, e.1, e.2]; simp
  · rw [if_neg e]
    refine ⟨.inl, fun c => c.elim id fun c => ?_⟩
    simp only [Prod.mk.injEq] at c
    exact absurd ⟨by omega, by omega⟩ e

set_option maxHeartbeats 2000000 in
theorem read_any (n : Int) (A : Option Addr) (c : Nat) (l : List (Int × Int)) (hl : l.length ≤ 1000) (w : World) (hs : Es w w.heap.size A l) : Calls Tryz.prog 52 #[.int .i64 n, .slice A l.length c] w (GrPost w (am n) (ge l)) := by
  have hm : min (max n 0) 100 = (am n : Int) := by unfold am; omega
  have HE : Hid (Calls Tryz.prog 76 #[.int .i64 (am n : Int)] w (GrPost w (am n) (fun _ _ => false))) := empty_any (am n) (by have := am_le n; omega) w
  have hle : am n ≤ 100 := am_le n
  generalize am n = m at *
  go_enter Tryz.func52, Tryz.ntmps52
  go_wp2_with fail
  refine HE.out.mono ?_
  rintro e w1 ⟨b, R, rfl, hG, hb, hR, hB⟩
  clear HE
  go_wp2
  go_loopw [14] (fun t wr => ∃ (k : Nat), k ≤ l.length ∧ t = .int .i64 (k : Int) ∧ Gr wr b R m (ge (l.take k)) ∧ Below w.heap.size w wr) (fun t _ => l.length - (intOf t).toNat)
  case atStart => exact ⟨0, by omega, rfl, hG.congr fun i j _ _ => by simp [ge], hB⟩
  case round =>
    obtain ⟨k, hk, rfl, hG, hbel⟩ := hrel
    by_cases hlt : k < l.length
    · have hki : (k : Int) < (l.length : Int) := by omega
      have hsz := hbel.size
      obtain ⟨q, off, rfl, hq, q0, q1⟩ := (hs.below hbel).at_ hlt
      have GO := Lib.hid (fun (h : ¬ ((0 ≤ (l[k]).1 ∧ (l[k]).1 < (m : Int)) ∧ (0 ≤ (l[k]).2 ∧ (l[k]).2 < (m : Int)))) (i j : Nat) (hi : i < m) (hj : j < m) => ge_out hlt h hi hj)
      have GH := Lib.hid (fun (x y : Nat) (h : l[k] = ((x : Int), (y : Int))) (i j : Nat) => ge_hit hlt h i j)
      generalize l[k] = r at *
      obtain ⟨x, y⟩ := r
      simp only at q0 q1 GO GH
      have bN : Below wr.heap.size wr (wr.alloc (.cells #[.int .i64 x, .int .i64 y] 46)) := (Below.refl _ _).alloc (Nat.le_refl _) _
      have G1 := hG.old (.cells #[.int .i64 x, .int .i64 y] 46)
      have B1 := hbel.trans (bN.mono hsz)
      have p0 : (wr.alloc (.cells #[.int .i64 x, .int .i64 y] 46)).cell? ⟨wr.heap.size, 0, none⟩ = some (.int .i64 x) := by simp
      have p1 : (wr.alloc (.cells #[.int .i64 x, .int .i64 y] 46)).cell? ⟨wr.heap.size, 1, none⟩ = some (.int .i64 y) := by simp
      by_cases hx : 0 ≤ x ∧ x < (m : Int)
      · have H1 := has_any (some ⟨b, 0, none⟩) m m x true (by rw [decide_eq_true hx]) (wr.alloc (.cells #[.int .i64 x, .int .i64 y] 46))
        by_cases hy : 0 ≤ y ∧ y < (m : Int)
        · have H2 := has_any (some ⟨b, 0, none⟩) m m y true (by rw [decide_eq_true hy]) (wr.alloc (.cells #[.int .i64 x, .int .i64 y] 46))
          obtain ⟨a, rfl⟩ := Int.eq_ofNat_of_zero_le hx.1
          obtain ⟨d, rfl⟩ := Int.eq_ofNat_of_zero_le hy.1
          have K1 := Lib.hid H1
          have K2 := Lib.hid H2
          have ha : a < m := by omega
          have hd : d < m := by omega
          have hai : (a : Int) < (m : Int) := by omega
          have hdi : (d : Int) < (m : Int) := by omega
          have c1 := G1.hcell ha
          have f1 := Tb.free (G1.row a ha) d
          have c2 := G1.cell ha hd
          have G2 := (G1.set ha d true).congr fun i j _ _ => GH.out a d rfl i j
          have B2 := B1.setCell (p := ⟨R a, d, none⟩) (hR a ha) (.bool true)
          clear GO GH H1 H2 hx hy hG hbel B1 G1 bN
          go_wp2_with fail
          refine K1.out.mono ?_
          rintro e w2 ⟨rfl, rfl⟩
          clear K1
          go_wp2_with fail
          refine K2.out.mono ?_
          rintro e w2 ⟨rfl, rfl⟩
          clear K2
          go_wp2
          go_region
          have G3 := G2.drew
          have B3 := B2.drew
          generalize ((wr.alloc (Obj.cells #[.int .i64 (a : Int), .int .i64 (d : Int)] 46)).setCell ⟨R a, d, none⟩ (.bool true)).drew = W5 at *
          clear c1 f1 c2 p0 p1 q0 q1
          go_wp2
          go_roundw
          case rel => exact ⟨k + 1, by omega, by go_num, G3, B3⟩
          case measure => simp [intOf]; omega
        · have K1 := Lib.hid H1
          have K2 := Lib.hid (has_any (some ⟨b, 0, none⟩) m m y false (by rw [decide_eq_false hy]) (wr.alloc (.cells #[.int .i64 x, .int .i64 y] 46)))
          have G2 := G1.congr fun i j hi hj => GO.out (fun h => hy h.2) i j hi hj
          clear GO GH H1 hx hy hG hbel G1 bN
          go_wp2_with fail
          refine K1.out.mono ?_
          rintro e w2 ⟨rfl, rfl⟩
          clear K1
          go_wp2_with fail
          refine K2.out.mono ?_
          rintro e w2 ⟨rfl, rfl⟩
          clear K2
          go_wp2
          go_roundw
          case rel => exact ⟨k + 1, by omega, by go_num, G2, B1⟩
          case measure => simp [intOf]; omega
      · have K1 := Lib.hid (has_any (some ⟨b, 0, none⟩) m m x false (by rw [decide_eq_false hx]) (wr.alloc (.cells #[.int .i64 x, .int .i64 y] 46)))
        have G2 := G1.congr fun i j hi hj => GO.out (fun h => hx h.1) i j hi hj
        clear GO GH hx hG hbel G1 bN
        go_wp2_with fail
        refine K1.out.mono ?_
        rintro e w2 ⟨rfl, rfl⟩
        clear K1
        go_wp2
        go_roundw
        case rel => exact ⟨k + 1, by omega, by go_num, G2, B1⟩
        case measure => simp [intOf]; omega
    · obtain rfl : k = l.length := by omega
      rw [List.take_length] at hG
      go_wp2
      go_ret
      exact ⟨b, R, rfl, hG, hb, hR, hbel⟩

set_option maxHeartbeats 2000000 in
theorem turned_any (b : Nat) (R : Nat → Nat) (n : Nat) (G : Nat → Nat → Bool) (hn : n ≤ 1000) (w : World) (hG : Gr w b R n G) : Calls Tryz.prog 80 #[.slice (some ⟨b, 0, none⟩) n n] w (GrPost w n (fun i j => G j i)) := by
  have HE : Hid (Calls Tryz.prog 76 #[.int .i64 (n : Int)] w (GrPost w n (fun _ _ => false))) := empty_any n hn w
  go_enter Tryz.func80, Tryz.ntmps80
  go_wp2_with fail
  refine HE.out.mono ?_
  rintro e w1 ⟨b1, R1, rfl, hT, hb, hR, hB⟩
  clear HE
  go_wp2
  go_loopw [12] (fun t wr => ∃ (k : Nat), k ≤ n ∧ t = .int .i64 (k : Int) ∧ Gr wr b1 R1 n (fun i j => if j < k then G j i else false) ∧ Below w.heap.size w wr) (fun t _ => n - (intOf t).toNat)
  case atStart => exact ⟨0, by omega, rfl, hT, hB⟩
  case round =>
    obtain ⟨k, hk, rfl, hT, hbel⟩ := hrel
    by_cases hlt : k < n
    · have hki : (k : Int) < (n : Int) := by omega
      have hk0 : (0 : Int) ≤ (k : Int) := by omega
      have hsz := hbel.size
      have c1 := (hG.up hbel).hcell hlt
      go_wp2
      go_loopw [20] (fun t wr => ∃ (j : Nat), j ≤ n ∧ t = .int .i64 (j : Int) ∧ Gr wr b1 R1 n (fun x y => if y < k then G y x else if y = k ∧ x < j then G k x else false) ∧ Below w.heap.size w wr) (fun t _ => n - (intOf t).toNat)
      case atStart => exact ⟨0, by omega, rfl, hT.congr fun i j _ _ => by simp, hbel⟩
      case round =>
        obtain ⟨j, hj, rfl, hT, hbel⟩ := hrel
        by_cases hjt : j < n
        · have hji : (j : Int) < (n : Int) := by omega
          have hj0 : (0 : Int) ≤ (j : Int) := by omega
          have d1 := (hG.up hbel).cell hlt hjt
          have d2 := hT.hcell hjt
          have d3 := Tb.free (hT.row j hjt) k
          have d4 := hT.cell hjt hlt
          have HV : Hid (∀ x y, x < n → y < n → (if x = j ∧ y = k then G k j else if y < k then G y x else if y = k ∧ x < j then G k x else false) = if y < k then G y x else if y = k ∧ x < j + 1 then G k x else false) := fun x y hx hy => by
            by_cases e1 : x = j ∧ y = k
            · rw [if_pos e1, if_neg (by omega), if_pos (by omega), e1.1]
            · rw [if_neg e1]
              by_cases e2 : y < k
              · rw [if_pos e2, if_pos e2]
              · rw [if_neg e2, if_neg e2]
                by_cases e3 : y = k ∧ x < j
                · rw [if_pos e3, if_pos (by omega)]
                · rw [if_neg e3, if_neg (by omega)]
          have T2 := (hT.set hjt k (G k j)).congr fun x y hx hy => HV.out x y hx hy
          have B2 := hbel.setCell (p := ⟨R1 j, k, none⟩) (hR j hjt) (.bool (G k j))
          generalize G k j = v at *
          clear HV hT hbel
          go_wp2
          go_roundw
          case rel => exact ⟨j + 1, by omega, by go_num, T2, B2⟩
          case measure => simp [intOf]; omega
        · obtain rfl : j = n := by omega
          have T2 := hT.congr (H := fun x y => if y < k + 1 then G y x else false) fun x y hx hy => by
            by_cases e2 : y < k
            · rw [if_pos e2, if_pos (by omega)]
            · rw [if_neg e2]
              by_cases e3 : y = k
              · rw [if_pos ⟨e3, hx⟩, if_pos (by omega), e3]
              · rw [if_neg (fun c => e3 c.1), if_neg (by omega)]
          go_wp2
          go_roundw
          case rel => exact ⟨k + 1, by omega, by go_num, T2, hbel⟩
          case measure => simp [intOf]; omega
    · obtain rfl : k = n := by omega
      have T2 := hT.congr (H := fun x y => G y x) fun x y hx hy => by rw [if_pos hy]
      go_wp2
      go_ret
      exact ⟨b1, R1, rfl, T2, hb, hR, hbel⟩

end Go.Proofs.YtgpciipemgljcaaGreat.Gp

/-
  The walk of graph.walk: what is reached by things that were not seen before, each told behind all that was gone to from it. Conditions: at most 1000 things; what was seen is closed.
-/
namespace Go.Proofs.YtgpciipemgljcaaGreat.Gp
open Go.RowKit
set_option linter.unusedVariables false

/-- Things as values. -/
def iv (l : List Nat) : List Value := l.map (fun (x : Nat) => Value.int .i64 (x : Int))
theorem iv_len (l : List Nat) : (iv l).length = l.length := by simp [iv]
theorem iv_snoc (l : List Nat) (x : Nat) : iv (l ++ [x]) = iv l ++ [.int .i64 (x : Int)] := by simp [iv]

theorem own_same {w w' : World} {base : Nat} {e : TypeId} {v : Value} {n : Nat} {xs : List Value} (h : w.ownsRow base e 1 v n xs) (hg : ∀ g, v.ownBlock = some g → w'.heap[g]? = w.heap[g]?) : w'.ownsRow base e 1 v n xs := by
  refine ⟨h.1, ?_⟩
  rcases h.2 with h0 | ⟨g, cap, cur, rfl, hb, hh, h1, h2, h3, h4⟩
  · exact .inl h0
  · exact .inr ⟨g, cap, cur, rfl, hb, (hg g rfl).trans hh, h1, h2, h3, h4⟩
theorem own_cut {w : World} {base : Nat} {e : TypeId} {g c n : Nat} {xs : List Value} {x : Value} (h : w.ownsRow base e 1 (.slice (some ⟨g, 0, none⟩) (n + 1) c) (n + 1) (xs ++ [x])) : w.ownsRow base e 1 (.slice (some ⟨g, 0, none⟩) n c) n xs := by
  have hl := h.1
  simp at hl
  rcases h.2 with ⟨h0, _⟩ | ⟨g', cap, cur, hv, hb, hh, h1, h2, h3, h4⟩
  · cases h0
  · simp only [Value.slice.injEq, Option.some.injEq, Addr.mk.injEq] at hv
    obtain ⟨⟨rfl, _⟩, _, rfl⟩ := hv
    refine ⟨by simpa using hl, .inr ⟨g, c, cur, rfl, hb, hh, by omega, h2, h3, ?_⟩⟩
    have := congrArg (List.take n) h4
    rw [List.take_take, show min n ((n + 1) * 1) = n by omega, List.take_append_of_le_length (Nat.le_of_eq hl.symm), List.take_of_length_le (Nat.le_of_eq hl)] at this
    rw [Nat.mul_one]
    exact this
theorem own_cell {w : World} {base : Nat} {e : TypeId} {g c n : Nat} {xs : List Value} (h : w.ownsRow base e 1 (.slice (some ⟨g, 0, none⟩) n c) n xs) {j : Nat} {u : Value} (hj : xs[j]? = some u) : w.cell? ⟨g, j, none⟩ = some u := by
  have := h.cells (g := g) rfl j u hj
  rwa [Addr.add_lit, Nat.zero_add] at this

/-- 's[:k]' of a slice of integers. -/
theorem cut29 (g n c k : Nat) (hk : k ≤ n) (hc : n ≤ c) : (∀ W, (Instr.sliceAt 26 (.slice (some ⟨g, 0, none⟩) n c) none (some (.int .i64 (k : Int))) none).run Tryz.prog W = .ok (.slice (some ⟨g, 0, none⟩) k c) W) ∧
    (∀ W, (Instr.slice 26 (.slice (some ⟨g, 0, none⟩) n c) none (some (.int .i64 (k : Int))) none).run Tryz.prog W = .ok (.slice (some ⟨g, 0, none⟩) k c) W) := by
  have hu : Tryz.prog.underlying 26 = some (.slice (Tryz.prog.elem 26)) := by kernel_rfl
  have hs : ∀ W, (sizeOf (Tryz.prog.elem 26)).run Tryz.prog W = .ok 1 W := fun W => by
    have : Tryz.prog.elem 26 = 3 := by kernel_rfl
    rw [this]
    simp [go_sem]
  have h2 : ∀ W, (Instr.slice 26 (.slice (some ⟨g, 0, none⟩) n c) none (some (.int .i64 (k : Int))) none).run Tryz.prog W = .ok (.slice (some ⟨g, 0, none⟩) k c) W := fun W => by
    rw [run_slice_h W 26 (some ⟨g, 0, none⟩) n c hu .i64 k (by omega) (by omega), hs]
    simp [sliced, Addr.add]
  exact ⟨fun W => by rw [run_sliceAt_slice W 26 _ _ _ _ hu]; exact h2 W, h2⟩

/-- What a walk gave. -/
def WkPost (w : World) (n : Nat) (G : Nat → Nat → Bool) (s : Nat) (seen0 : Nat → Bool) (f : Nat) (e : Ending) (w' : World) : Prop :=
  ∃ l g c, e = .returned (.slice (some ⟨g, 0, none⟩) l.length c) ∧ Lft (Eg n G) n seen0 f l ∧ w'.ownsRow w.heap.size 3 1 (.slice (some ⟨g, 0, none⟩) l.length c) l.length (iv l) ∧ Br w' s (fun x => seen0 x || decide (x ∈ l)) n ∧ Off (· = s) w w'

theorem Inv.size {E : Nat → Nat → Prop} {m : Nat} {seen0 seen : Nat → Bool} {f : Nat} {st left : List Nat} (h : Inv E m seen0 f st left seen) : left.length + st.length ≤ m := by
  have := h.nd.length_le_of_subset (l₂ := List.range m) (fun x hx => List.mem_range.2 (h.out x (List.mem_append.1 hx)).2.1)
  simpa using this

set_option maxRecDepth 100000 in
set_option maxHeartbeats 4000000 in
theorem walk_any (b : Nat) (R : Nat → Nat) (n : Nat) (G : Nat → Nat → Bool) (hn : n ≤ 1000) (s : Nat) (seen0 : Nat → Bool) (f : Nat) (hf : f < n) (h0 : seen0 f = false) (hcl : ∀ x y, seen0 x = true → Eg n G x y → seen0 y = true) (w : World) (hG : Gr w b R n G) (hS : Br w s seen0 n) (hsR : ∀ i, i < n → R i ≠ s) :
    Calls Tryz.prog 69 #[.slice (some ⟨b, 0, none⟩) n n, .int .i64 (f : Int), .slice (some ⟨s, 0, none⟩) n n] w (WkPost w n G s seen0 f) := by
  obtain ⟨i0, hi, hz0, hz1, hz2⟩ := info_parts info3
  have hfi : (f : Int) < (n : Int) := by omega
  have hf0 : (0 : Int) ≤ (f : Int) := by omega
  have hsl := Tb.lt hS
  have c1 := hS.cell hf
  have f1 := Tb.free hS f
  have S2 : Br ((w.setCell ⟨s, f, none⟩ (.bool true)).alloc (.cells #[.int .i64 (f : Int)] 3)) s (upd seen0 f) n := Tb.old (hS.upd f) _
  have O2 : Off (· = s) w ((w.setCell ⟨s, f, none⟩ (.bool true)).alloc (.cells #[.int .i64 (f : Int)] 3)) := ((Off.refl (· = s) w).set (p := ⟨s, f, none⟩) (.inl rfl) _).alloc _
  have K2 : ((w.setCell ⟨s, f, none⟩ (.bool true)).alloc (.cells #[.int .i64 (f : Int)] 3)).ownsRow w.heap.size 3 1 (.slice (some ⟨w.heap.size, 0, none⟩) 1 1) 1 (iv [f]) :=
    ⟨rfl, .inr ⟨w.heap.size, 1, #[.int .i64 (f : Int)], rfl, Nat.le_refl _, by rw [show w.heap.size = (w.setCell ⟨s, f, none⟩ (.bool true)).heap.size by simp]; exact heap_alloc_new _ _, by simp, by unfold maxLen; omega, rfl, rfl⟩⟩
  have I2 := Lib.hid (Inv.start (E := Eg n G) (m := n) (seen0 := seen0) h0 hf)
  have HG : Hid (∀ W, Off (· = s) w W → Gr W b R n G) := fun W h => hG.same (h.block b hG.lt (fun e => (hG.hdr.apart hS (by decide)) e)) fun i hi => h.block (R i) (hG.rlt hi) (hsR i hi)
  have HC := Lib.hid hcl
  have HS := Lib.hid hS
  clear hcl hG hS
  go_enter Tryz.func69, Tryz.ntmps69
  go_wp2
  go_step3
  go_wp2
  go_step3
  go_wp2
  clear c1 f1
  generalize (w.setCell ⟨s, f, none⟩ (.bool true)).alloc (.cells #[.int .i64 (f : Int)] 3) = W2 at *
  go_loopg [7, 8] (2 * uns n (upd seen0 f) + 1) (fun g v7 v8 wr => ∃ (k : Nat) (st left : List Nat) (seen : Nat → Bool) (g8 c8 : Nat), v8 = .slice (some ⟨g8, 0, none⟩) k c8 ∧ Hid (st.length = k) ∧ Hid (2 * uns n seen + k ≤ g) ∧ Hid (Inv (Eg n G) n seen0 f st left seen) ∧ Hid (wr.ownsRow w.heap.size 3 1 (.slice (some ⟨g8, 0, none⟩) k c8) k (iv st)) ∧ Hid (wr.ownsRow w.heap.size 3 1 v7 left.length (iv left)) ∧ Hid (v7.ownBlock ≠ some g8) ∧ Hid (Br wr s seen n) ∧ Hid (Off (· = s) w wr))
  case atStart => exact ⟨1, [f], [], upd seen0 f, w.heap.size, 1, rfl, rfl, Nat.le_refl _, I2.out, K2, World.ownsRow_nil _ _ _ _, by show Value.ownBlock _ ≠ _; simp [Value.ownBlock], S2, O2⟩
  case round =>
    obtain ⟨k, st, left, seen, g8, c8, rfl, hk, hm, hI, h8, h7, hne, hS, hO⟩ := hrel
    clear K2 S2 O2 I2
    rcases List.eq_nil_or_concat st with rfl | ⟨st, t, rfl⟩
    · obtain rfl : k = 0 := hk.out.symm
      have hF := hI.out.fin HC.out
      have hfl : f ∈ left := by simpa using hI.out.has
      have hlp : 0 < left.length := List.length_pos_of_mem hfl
      obtain ⟨g7, c7, rfl, hg7, hg7l⟩ := h7.out.form hlp
      have hF := Lib.hid hF
      go_wp2
      go_ret
      exact ⟨left, g7, c7, rfl, hF.out.1, h7.out, hS.out.congr fun i _ => hF.out.2 i, hO.out⟩
    · rw [List.concat_eq_append] at *
      obtain ⟨q, rfl⟩ : ∃ q, k = q + 1 := ⟨st.length, by rw [← hk.out]; simp⟩
      have hq : Hid (st.length = q) := by have := hk.out; simp at this; exact this
      have hsize := hI.out.size
      rw [List.length_append, List.length_singleton, hq.out] at hsize
      have htn : t < n := (hI.out.out t (.inr (by simp))).2.1
      have c8t : wr.cell? ⟨g8, q, none⟩ = some (.int .i64 (t : Int)) := own_cell h8.out (by rw [iv_snoc, ← hq.out, ← iv_len]; simp)
      have hg := HG.out wr hO.out
      have cht := hg.hcell htn
      have hti : (t : Int) < (n : Int) := by omega
      have ht0 : (0 : Int) ≤ (t : Int) := by omega
      have hw1 : wrap64 (q : Int) = (q : Int) := by unfold wrap64; omega
      have hqi : (q : Int) < (q : Int) + 1 := by omega
      have hg8 := (h8.out.lt g8 rfl)
      go_wp2
      go_loopg [8, 31] n (fun g sv tv W => ∃ j : Nat, j + g = n ∧ sv = .slice (some ⟨g8, 0, none⟩) (q + 1) c8 ∧ tv = .int .i64 (j : Int) ∧ Hid (∀ y, y < j → Eg n G t y → seen y = true) ∧ W = wr)
      case atStart => exact ⟨0, by omega, rfl, rfl, fun y h => by omega, rfl⟩
      case round =>
        obtain ⟨j, hj, rfl, rfl, hJ, rfl⟩ := hrel
        by_cases hlt : j < n
        · have hji : (j : Int) < (n : Int) := by omega
          have hj0 : (0 : Int) ≤ (j : Int) := by omega
          have cg := hg.cell htn hlt
          have cs := hS.out.cell hlt
          have fs := Tb.free hS.out j
          rcases hGv : G t j with _ | _
          · rw [hGv] at cg
            have J2 : Hid (∀ y, y < j + 1 → Eg n G t y → seen y = true) := fun y hy e => by
              rcases Nat.lt_or_ge y j with h | h
              · exact hJ.out y h e
              · obtain rfl : y = j := by omega
                rw [e.2.2] at hGv; cases hGv
            clear hGv
            go_wp2
            go_roundg (n - (j + 1))
            case measure => omega
            case rel => exact ⟨j + 1, by omega, rfl, by go_num, J2, rfl⟩
          · rw [hGv] at cg
            rcases hsv : seen j with _ | _
            · rw [hsv] at cs
              have hE : Eg n G t j := ⟨htn, hlt, hGv⟩
              have I3 := Lib.hid (hI.out.push (eg_in n G) hE hsv)
              have U3 := Lib.hid (uns_upd hlt hsv)
              clear hGv hsv
              have S3 : Br ((wr.setCell ⟨s, j, none⟩ (.bool true)).alloc (.cells #[.int .i64 (j : Int)] 3)) s (upd seen j) n := Tb.old (hS.out.upd j) _
              have O3 : Off (· = s) w ((wr.setCell ⟨s, j, none⟩ (.bool true)).alloc (.cells #[.int .i64 (j : Int)] 3)) := (hO.out.set (p := ⟨s, j, none⟩) (.inl rfl) _).alloc _
              have keep : ∀ g, w.heap.size ≤ g → g < wr.heap.size → ((wr.setCell ⟨s, j, none⟩ (.bool true)).alloc (.cells #[.int .i64 (j : Int)] 3)).heap[g]? = wr.heap[g]? := fun g h1 h2 => (heap_alloc_old _ _ (by simpa using h2)).trans (Below.heap_setCell _ _ _ _ (by show g ≠ s; omega))
              have H8 := own_same h8.out fun g hg => keep g (h8.out.lt g hg).1 (h8.out.lt g hg).2
              have H7 := own_same h7.out fun g hg => keep g (h7.out.lt g hg).1 (h7.out.lt g hg).2
              have Z3 : ((wr.setCell ⟨s, j, none⟩ (.bool true)).alloc (.cells #[.int .i64 (j : Int)] 3)).heap.size = wr.heap.size + 1 := by simp
              have N3 : ((wr.setCell ⟨s, j, none⟩ (.bool true)).alloc (.cells #[.int .i64 (j : Int)] 3)).heap[wr.heap.size]? = some (.cells #[.int .i64 (j : Int)] 3 (0, 0)) := by
                rw [show wr.heap.size = (wr.setCell ⟨s, j, none⟩ (.bool true)).heap.size by simp]; exact heap_alloc_new _ _
              have hwl := hO.out.size
              have L7 := h7.out.lt
              have SS := Lib.hid S3
              have HH7 := Lib.hid H7
              have HH8 := Lib.hid H8
              have HO3 := Lib.hid O3
              have HN3 := Lib.hid N3
              have HZ3 := Lib.hid Z3
              have HL7 := Lib.hid L7
              clear S3 H7 H8 O3 keep N3 Z3 L7
              go_wp2_with (at_builtin; refine wpList_append_lies _ rfl _ _ 26 rfl w.heap.size 3 i0 (.int .i64 0) 1 8 Tryz.underlying26 hi hz0 hz1 hz2 rfl (by decide) (.slice (some ⟨g8, 0, none⟩) (q + 1) c8) (q + 1) (iv (st ++ [t])) rfl HH8.out ⟨wr.heap.size, 0, none⟩ 1 1 [.int .i64 (j : Int)] rfl rfl (World.news_of_block HN3.out) (by intro u hu; simp at hu; subst hu; rfl) (by decide) (by unfold maxLen; omega) (by omega) (by rw [HZ3.out]; omega) (wr.heap.size + 1) HZ3.out ?_; intro g' c' w5 hown hgrow hat hlt5)
              have hg'1 : g' ≠ s := by
                rcases hat with e | e
                · simp [Value.ownBlock] at e; omega
                · omega
              have S5 : Br w5 s (upd seen j) n := Tb.same SS.out (hgrow.block s (by rw [HZ3.out]; omega) (by simp [Value.ownBlock]; omega))
              have H5 := own_same HH7.out fun g hg => hgrow.block g (HH7.out.lt g hg).2 (by
                have := hne.out
                rw [hg] at this
                simpa [Value.ownBlock] using this)
              have O5 := HO3.out.grown hgrow (fun r hr => .inr (by simp [Value.ownBlock] at hr; omega))
              have hne5 : Hid (u7.ownBlock ≠ some g') := fun e => by
                rcases hat with e2 | e2
                · exact hne.out (e.trans e2.symm)
                · have := (HL7.out g' e).2; omega
              have hown5 : Hid (w5.ownsRow w.heap.size 3 1 (.slice (some ⟨g', 0, none⟩) (q + 1 + 1) c') (q + 1 + 1) (iv (st ++ [t] ++ [j]))) := by
                show World.ownsRow _ _ _ _ _ _ _
                rw [iv_snoc]; exact hown
              go_wp2
              go_roundg (2 * uns n (upd seen j) + (q + 1 + 1))
              case measure => have := hm.out; have := U3.out; omega
              case rel => exact ⟨q + 1 + 1, st ++ [t] ++ [j], left, upd seen j, g', c', rfl, by show _ = _; simp [hq.out], Nat.le_refl _, I3.out, hown5.out, H5, hne5.out, S5, O5⟩
            · rw [hsv] at cs
              have J2 : Hid (∀ y, y < j + 1 → Eg n G t y → seen y = true) := fun y hy e => by
                rcases Nat.lt_or_ge y j with h | h
                · exact hJ.out y h e
                · obtain rfl : y = j := by omega
                  exact hsv
              clear hGv hsv
              go_wp2
              go_roundg (n - (j + 1))
              case measure => omega
              case rel => exact ⟨j + 1, by omega, rfl, by go_num, J2, rfl⟩
        · obtain rfl : j = n := by omega
          have I3 := Lib.hid (hI.out.pop HC.out fun y e => hJ.out y e.2.1 e)
          have C8 : Hid (wr.ownsRow w.heap.size 3 1 (.slice (some ⟨g8, 0, none⟩) q c8) q (iv st)) := own_cut (x := .int .i64 (t : Int)) (by rw [← iv_snoc]; exact h8.out)
          obtain ⟨r1, r2⟩ := cut29 g8 (q + 1) c8 q (by omega) (by
            rcases h8.out.2 with ⟨h, _⟩ | ⟨_, _, _, hv, _, _, h1, _⟩
            · cases h
            · simp only [Value.slice.injEq] at hv; omega)
          have Z3 : (wr.alloc (.cells #[.int .i64 (t : Int)] 3)).heap.size = wr.heap.size + 1 := by simp
          have HZ3 := Lib.hid Z3
          have HN3 := Lib.hid (heap_alloc_new wr (.cells #[.int .i64 (t : Int)] 3))
          have H7 := Lib.hid (own_same (w' := wr.alloc (.cells #[.int .i64 (t : Int)] 3)) h7.out fun g hg => heap_alloc_old _ _ (h7.out.lt g hg).2)
          have H8 := Lib.hid (own_same (w' := wr.alloc (.cells #[.int .i64 (t : Int)] 3)) C8.out fun g hg => heap_alloc_old _ _ (C8.out.lt g hg).2)
          have S3 : Hid (Br (wr.alloc (.cells #[.int .i64 (t : Int)] 3)) s seen j) := Tb.old hS.out _
          have O3 := Lib.hid (hO.out.alloc (.cells #[.int .i64 (t : Int)] 3))
          have hwl := hO.out.size
          have HL7 := Lib.hid h7.out.lt
          clear Z3
          go_wp2_with (at_builtin; refine wpList_append_lies _ rfl _ _ 26 rfl w.heap.size 3 i0 (.int .i64 0) 1 8 Tryz.underlying26 hi hz0 hz1 hz2 rfl (by decide) u7 left.length (iv left) rfl H7.out ⟨wr.heap.size, 0, none⟩ 1 1 [.int .i64 (t : Int)] rfl rfl (World.news_of_block HN3.out) (by intro u hu; simp at hu; subst hu; rfl) (by decide) (by unfold maxLen; omega) (by omega) (by rw [HZ3.out]; omega) (wr.heap.size + 1) HZ3.out ?_; intro g' c' w5 hown hgrow hat hlt5)
          have hg'1 : g' ≠ s := by
            rcases hat with e | e
            · have := (HL7.out g' e).1; omega
            · omega
          have hr7 : ∀ r, u7.ownBlock = some r → w.heap.size ≤ r := fun r e => (HL7.out r e).1
          have S5 : Br w5 s seen j := Tb.same S3.out (hgrow.block s (by rw [HZ3.out]; omega) (fun e => by have := hr7 s e.symm; omega))
          have H5 := own_same H8.out fun g hg => hgrow.block g (by rw [HZ3.out]; simp [Value.ownBlock] at hg; omega) (fun e => by
            simp [Value.ownBlock] at hg
            exact hne.out (by rw [← e, hg]))
          have O5 := O3.out.grown hgrow (fun r hr => .inr (hr7 r hr))
          have hne5 : Hid (Value.ownBlock (.slice (some ⟨g', 0, none⟩) (left.length + 1) c') ≠ some g8) := fun e => by
            simp [Value.ownBlock] at e
            rcases hat with e2 | e2
            · exact hne.out (e2.trans (by rw [e]))
            · omega
          have hown5 : Hid (w5.ownsRow w.heap.size 3 1 (.slice (some ⟨g', 0, none⟩) (left.length + 1) c') (left ++ [t]).length (iv (left ++ [t]))) := by
            show World.ownsRow _ _ _ _ _ _ _
            rw [iv_snoc, List.length_append]; exact hown
          go_wp2
          go_roundg (2 * uns j seen + q)
          case measure => have := hm.out; omega
          case rel => exact ⟨q, st, left ++ [t], seen, g8, c8, rfl, hq.out, Nat.le_refl _, I3.out, H5, hown5.out, hne5.out, S5, O5⟩

end Go.Proofs.YtgpciipemgljcaaGreat.Gp
