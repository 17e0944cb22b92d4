/-
  Words for maps whose keys are structs: what a map's block holds, as a function from keys to values; its operations; a range over it. No program's function is walked here. No conditions.
-/
import Derived.Test.YtmeklhlojogdnaaDoorMem
import Derived.Maps.RangeWalk
import Derived.DeepKeys4
namespace Go.Proofs.YtmeklhlojogdnaaDoor
open Go.RowKit Go.MapKept
open Go.ChangeMaps (setBlock heap_setBlock_same heap_setBlock_other)
open Go.Maps (Keyed)
set_option linter.unusedVariables false

/-- How keys of a kind are values. -/
structure Kd (α : Type) where
  k : TypeId
  val : α → Value
  ok : α → Prop
structure Kd.Good {α : Type} (d : Kd α) : Prop where
  law : Keyed Tryd.prog d.k
  key : ∀ a, d.ok a → ∃ l, keyOf Tryd.prog d.k (d.val a) = some l
  inj : ∀ a b, d.val a = d.val b → a = b

/-- A number that an int holds. -/
def fits (n : Int) : Prop := -9223372036854775808 ≤ n ∧ n ≤ 9223372036854775807
theorem fits.wf {n : Int} (h : fits n) : (Lit.int .i64 n).wf = true := by
  obtain ⟨h1, h2⟩ := h
  simp only [Lit.wf, Bool.and_eq_true, decide_eq_true_eq]
  exact ⟨h1, h2⟩

theorem laidOut : laidOutB Tryd.prog = true := by kernel_rfl
theorem kt26 : Tryd.prog.keyType 26 = true := by kernel_rfl
theorem kt60 : Tryd.prog.keyType 60 = true := by kernel_rfl
theorem law26 : Keyed Tryd.prog 26 := Keyed.of_law (deep_law_laid laidOut (m := Tryd.prog.types.size + 1) (of_decide_eq_true (by kernel_rfl)) (of_decide_eq_true (by kernel_rfl)) kt26 (by rw [Tryd.underlying26]))
theorem law60 : Keyed Tryd.prog 60 := Keyed.of_law (deep_law_laid laidOut (m := Tryd.prog.types.size + 1) (of_decide_eq_true (by kernel_rfl)) (of_decide_eq_true (by kernel_rfl)) kt60 (by rw [Tryd.underlying60]))


theorem ts : Tryd.prog.types.size + 1 = 94 + 1 + 1 := by kernel_rfl
theorem co26 : Tryd.prog.cellsOf 26 = 2 := by kernel_rfl
theorem co60 : Tryd.prog.cellsOf 60 = 3 := by kernel_rfl
theorem co3 : Tryd.prog.cellsOf 3 = 1 := by kernel_rfl
theorem co4 : Tryd.prog.cellsOf 4 = 1 := by kernel_rfl

theorem lits26 (n : Nat) (a b : Int) (ha : fits a) (hb : fits b) : Tryd.prog.keyLits (n + 1 + 1) 26 [.int .i64 a, .int .i64 b] = some [.int .i64 a, .int .i64 b] := by
  simp [Program.keyLits, Tryd.underlying26, co26, co3, Tryd.underlying3, ha.wf, hb.wf]
theorem lits60 (n : Nat) (x y : Bool) (a : Int) (ha : fits a) : Tryd.prog.keyLits (n + 1 + 1) 60 [.bool x, .int .i64 a, .bool y] = some [.bool x, .int .i64 a, .bool y] := by
  simp [Program.keyLits, Tryd.underlying60, co60, co3, co4, Tryd.underlying3, Tryd.underlying4, ha.wf]
theorem key26 (a b : Int) (ha : fits a) (hb : fits b) : ∃ l, keyOf Tryd.prog 26 (.agg #[.int .i64 a, .int .i64 b]) = some l := by
  have fm : (Value.agg #[.int .i64 a, .int .i64 b]).formed Tryd.prog 26 = true := by simp [Value.formed, Tryd.underlying26, co26]
  unfold keyOf
  rw [Tryd.underlying26, ts]
  simp only [kt26, fm, Bool.and_self, if_true, Value.cells, lits26 94 a b ha hb, Option.map_some]
  exact ⟨_, rfl⟩
theorem key60 (x y : Bool) (a : Int) (ha : fits a) : ∃ l, keyOf Tryd.prog 60 (kv x a y) = some l := by
  have fm : (kv x a y).formed Tryd.prog 60 = true := by simp [Value.formed, Tryd.underlying60, co60]
  unfold keyOf
  rw [Tryd.underlying60, ts]
  simp only [kt60, fm, Bool.and_self, if_true, Value.cells, lits60 94 x y a ha, Option.map_some]
  exact ⟨_, rfl⟩

/-- An instance as a value. -/
abbrev iv (p : Int × Int) : Value := .agg #[.int .i64 p.1, .int .i64 p.2]
def dI : Kd (Int × Int) := ⟨26, iv, fun p => fits p.1 ∧ fits p.2⟩
def dK : Kd Ky := ⟨60, fun x => kv x.a x.i x.c, fun x => fits x.i⟩
theorem goodI : dI.Good := ⟨law26, fun a h => key26 _ _ h.1 h.2, fun a b h => by
  obtain ⟨a1, a2⟩ := a
  obtain ⟨b1, b2⟩ := b
  simp only [dI, iv, Value.agg.injEq, Array.mk.injEq, List.cons.injEq, Value.int.injEq, true_and, and_true] at h
  rw [h.1, h.2]⟩
theorem goodK : dK.Good := ⟨law60, fun a h => key60 _ _ _ h, fun a b h => by
  obtain ⟨a1, a2, a3⟩ := a
  obtain ⟨b1, b2, b3⟩ := b
  simp only [dK, kv, Value.agg.injEq, Array.mk.injEq, List.cons.injEq, Value.int.injEq, Value.bool.injEq, true_and, and_true] at h
  rw [h.1, h.2.1, h.2.2]⟩

section
variable {α : Type} {d : Kd α}

/-- What a map's block holds: at each key that value. -/
structure Ent (d : Kd α) (es : Array MapEntry) (clock : Nat) (f : α → Option Value) : Prop where
  st : Stamped es clock
  ks : ∀ e ∈ es.toList, ∃ a, d.ok a ∧ e.key = d.val a
  at_ : ∀ a v, f a = some v ↔ ∃ e ∈ es.toList, e.key = d.val a ∧ e.val = v

/-- An object that is a map of c entries, which holds f. -/
def Mo (d : Kd α) (o : Option Obj) (f : α → Option Value) (c : Nat) : Prop := ∃ es clock, o = some (.map es clock) ∧ Ent d es clock f ∧ es.size = c

theorem mo_new : Mo d (some (.map #[] 0)) (fun _ => none) 0 := ⟨#[], 0, rfl, ⟨stamped_empty 0, by simp, by simp⟩, rfl⟩

/-- The function with another value at a key. -/
def upd [DecidableEq α] (f : α → Option Value) (a : α) (v : Option Value) : α → Option Value := fun x => if x = a then v else f x

theorem idx_eq {l : List MapEntry} (h : l.Pairwise (fun x y => x.key ≠ y.key)) {i j : Nat} {x y : MapEntry} (hi : l[i]? = some x) (hj : l[j]? = some y) (hk : x.key = y.key) : i = j := by
  obtain ⟨hi1, rfl⟩ := List.getElem?_eq_some_iff.1 hi
  obtain ⟨hj1, rfl⟩ := List.getElem?_eq_some_iff.1 hj
  have := List.pairwise_iff_getElem.1 h
  rcases Nat.lt_trichotomy i j with hl | hl | hl
  · exact absurd hk (this i j hi1 hj1 hl)
  · exact hl
  · exact absurd hk.symm (this j i hj1 hi1 hl)

theorem Ent.keys (G : d.Good) {es clock f} (E : Ent d es clock f) : ∀ e ∈ es.toList, ∃ l, keyOf Tryd.prog d.k e.key = some l := fun e he => by
  obtain ⟨a, ha, hk⟩ := E.ks e he
  rw [hk]
  exact G.key a ha

/-- Whether a key is there, and where. -/
theorem Ent.find (G : d.Good) {es clock f} (E : Ent d es clock f) {a : α} (ha : d.ok a) :
    (f a = none ∧ (∀ e ∈ es.toList, e.key ≠ d.val a) ∧ ∀ W, (Instr.findKey d.k (d.val a) es.toList).run Tryd.prog W = .ok none W) ∨
    ∃ j e, f a = some e.val ∧ es.toList[j]? = some e ∧ e.key = d.val a ∧ ∀ W, (Instr.findKey d.k (d.val a) es.toList).run Tryd.prog W = .ok (some (j, e.val)) W := by
  obtain ⟨l, hl⟩ := G.key a ha
  by_cases h : ∃ e ∈ es.toList, e.key = d.val a
  · obtain ⟨e, he, hk⟩ := h
    obtain ⟨j, hj⟩ := List.getElem?_of_mem he
    refine .inr ⟨j, e, (E.at_ a e.val).2 ⟨e, he, hk, rfl⟩, hj, hk, fun W => ?_⟩
    rcases G.law.find W hl es.toList (E.keys G) with ⟨_, h2⟩ | ⟨j', e', h1, h2, h3⟩
    · exact absurd hk (h2 e he)
    · obtain rfl := idx_eq ((stamped_iff _ _).1 E.st).2.2 hj h2 (hk.trans h3.symm)
      rw [hj] at h2
      cases h2
      exact h1
  · have hn : ∀ e ∈ es.toList, e.key ≠ d.val a := fun e he hk => h ⟨e, he, hk⟩
    refine .inl ⟨?_, hn, fun W => ?_⟩
    · cases hf : f a with
      | none => rfl
      | some v =>
        obtain ⟨e, he, hk, _⟩ := (E.at_ a v).1 hf
        exact absurd hk (hn e he)
    · rcases G.law.find W hl es.toList (E.keys G) with ⟨h1, _⟩ | ⟨j', e', h1, h2, h3⟩
      · exact h1
      · exact absurd h3 (hn e' (List.mem_of_getElem? h2))

/-- 'm[k]'. -/
theorem Mo.look (G : d.Good) {o f c} (h : Mo d o f c) {a : α} (ha : d.ok a) {t e : TypeId} {z : Value} (ht : Tryd.prog.underlying t = some (.map d.k e)) (hz : ∀ W, (zeroValue e).run Tryd.prog W = .ok z W) (b : Nat) (W : World) (hW : W.heap[b]? = o) :
    (Instr.lookup t (.map (some b)) (d.val a) false).run Tryd.prog W = .ok ((f a).getD z) W := by
  obtain ⟨es, clock, rfl, E, _⟩ := h
  obtain ⟨l, hl⟩ := G.key a ha
  rcases E.find G ha with ⟨h1, _, h3⟩ | ⟨j, e0, h1, _, _, h3⟩
  · simp [Instr.lookup, run_underlying ht, MapKept.run_getObj_map hW, G.law.check W _ hl, h3, hz, Result.andThen, h1]
  · simp [Instr.lookup, run_underlying ht, MapKept.run_getObj_map hW, G.law.check W _ hl, h3, Result.andThen, h1]

/-- 'len(m)'. -/
theorem Mo.len {o f c} (h : Mo d o f c) {t e : TypeId} (ht : Tryd.prog.underlying t = some (.map d.k e)) (ty : TypeId) (b : Nat) (W : World) (hW : W.heap[b]? = o) :
    (Builtin.len_ #[t] ty #[.map (some b)]).run Tryd.prog W = .ok (.int .i64 (c : Int)) W := by
  obtain ⟨es, clock, rfl, E, rfl⟩ := h
  simp [Builtin.len_, run_underlying ht, MapKept.run_getObj_map hW, goInt, Result.andThen]

/-- 'm[k] = v'. -/
theorem Mo.put [DecidableEq α] (G : d.Good) {o f c} (h : Mo d o f c) {a : α} (ha : d.ok a) {t e : TypeId} (ht : Tryd.prog.underlying t = some (.map d.k e)) (v : Value) (b : Nat) :
    ∃ o', (∀ W : World, W.heap[b]? = o → (Instr.mapUpdate t (.map (some b)) (d.val a) v).run Tryd.prog W = .ok () (setBlock W b o')) ∧ Mo d (some o') (upd f a (some v)) (if (f a).isSome then c else c + 1) := by
  obtain ⟨es, clock, rfl, E, rfl⟩ := h
  obtain ⟨l, hl⟩ := G.key a ha
  rcases E.find G ha with ⟨h1, h2, h3⟩ | ⟨j, e0, h1, h2, hk, h3⟩
  · refine ⟨.map (es.push ⟨d.val a, v, clock⟩) (clock + 1), fun W hW => ?_, es.push ⟨d.val a, v, clock⟩, clock + 1, rfl, ⟨stamped_push E.st h2, fun x hx => ?_, fun x u => ?_⟩, by simp [h1]⟩
    · simp [Instr.mapUpdate, run_underlying ht, MapKept.run_getObj_map hW, G.law.check W false hl, h3, MapKept.run_setObj_map _ hW, Result.andThen, setBlock]
    · simp only [Array.toList_push, List.mem_append, List.mem_singleton] at hx
      rcases hx with hx | rfl
      · exact E.ks x hx
      · exact ⟨a, ha, rfl⟩
    · simp only [Array.toList_push, List.mem_append, List.mem_singleton, upd]
      by_cases hx : x = a
      · subst hx
        rw [if_pos rfl]
        constructor
        · intro h; cases h; exact ⟨_, .inr rfl, rfl, rfl⟩
        · rintro ⟨y, hy | rfl, h5, h6⟩
          · exact absurd h5 (h2 y hy)
          · rw [← h6]
      · rw [if_neg hx, E.at_]
        constructor
        · rintro ⟨y, hy, h5, h6⟩; exact ⟨y, .inl hy, h5, h6⟩
        · rintro ⟨y, hy | rfl, h5, h6⟩
          · exact ⟨y, hy, h5, h6⟩
          · exact absurd (G.inj _ _ h5).symm hx
  · have hj : es[j]? = some e0 := by simpa using h2
    have hlist : (es.modify j (fun e' => { e' with key := d.val a, val := v })).toList = es.toList.set j { e0 with key := d.val a, val := v } := by rw [Array.toList_modify, ChangeMaps.modify_eq_set _ _ _ _ h2]
    have hjl : j < es.toList.length := (List.getElem?_eq_some_iff.1 h2).1
    have hst := ((stamped_iff _ _).1 E.st).2.2
    have hkeyf : ∀ e', es[j]? = some e' → ({ e' with key := d.val a, val := v } : MapEntry).key = e'.key := fun e' he' => by rw [hj] at he'; cases he'; exact hk.symm
    have who : ∀ x, x ∈ es.toList.set j { e0 with key := d.val a, val := v } ↔ x = { e0 with key := d.val a, val := v } ∨ (x ∈ es.toList ∧ x.key ≠ d.val a) := by
      intro x
      constructor
      · intro hx
        obtain ⟨i, hi⟩ := List.getElem?_of_mem hx
        rw [List.getElem?_set] at hi
        split at hi
        · first
            | (cases hi; exact .inl rfl)
            | (split at hi
               · cases hi; exact .inl rfl
               · cases hi)
        · rename_i hne
          refine .inr ⟨List.mem_of_getElem? hi, fun hxk => hne ?_⟩
          exact idx_eq hst h2 hi (hk.trans hxk.symm)
      · rintro (rfl | ⟨hx, hxk⟩)
        · exact List.mem_of_getElem? (i := j) (by rw [List.getElem?_set, if_pos rfl, if_pos hjl])
        · obtain ⟨i, hi⟩ := List.getElem?_of_mem hx
          have hne : j ≠ i := fun e1 => by
            subst e1
            rw [h2] at hi
            cases hi
            exact hxk hk
          exact List.mem_of_getElem? (i := i) (by rw [List.getElem?_set, if_neg hne]; exact hi)
    refine ⟨.map (es.modify j (fun e' => { e' with key := d.val a, val := v })) clock, fun W hW => ?_, es.modify j (fun e' => { e' with key := d.val a, val := v }), clock, rfl, ⟨stamped_modify E.st _ _ (fun _ _ => rfl) (fun e' _ he' => hkeyf e' he'), fun x hx => ?_, fun x u => ?_⟩, by simp [h1]⟩
    · simp [Instr.mapUpdate, run_underlying ht, MapKept.run_getObj_map hW, G.law.check W false hl, h3, hj, hk, G.law.stays W hl, MapKept.run_setObj_map _ hW, Result.andThen, setBlock]
    · rw [hlist] at hx
      rcases (who x).1 hx with rfl | ⟨hx, _⟩
      · exact ⟨a, ha, rfl⟩
      · exact E.ks x hx
    · simp only [hlist, upd]
      by_cases hx : x = a
      · subst hx
        rw [if_pos rfl]
        constructor
        · intro h; cases h; exact ⟨_, (who _).2 (.inl rfl), rfl, rfl⟩
        · rintro ⟨y, hy, h5, h6⟩
          rcases (who y).1 hy with rfl | ⟨_, h7⟩
          · rw [← h6]
          · exact absurd h5 h7
      · rw [if_neg hx, E.at_]
        constructor
        · rintro ⟨y, hy, h5, h6⟩; exact ⟨y, (who y).2 (.inr ⟨hy, fun h7 => hx (G.inj _ _ (h5.symm.trans h7))⟩), h5, h6⟩
        · rintro ⟨y, hy, h5, h6⟩
          rcases (who y).1 hy with rfl | ⟨h7, _⟩
          · exact absurd (G.inj _ _ h5).symm hx
          · exact ⟨y, h7, h5, h6⟩

/-- 'delete(m, k)'. -/
theorem Mo.del [DecidableEq α] (G : d.Good) {o f c} (h : Mo d o f c) {a : α} (ha : d.ok a) {t e : TypeId} (ht : Tryd.prog.underlying t = some (.map d.k e)) (b : Nat) :
    ∃ o', (∀ (W : World) (ty : TypeId), W.heap[b]? = o → (Builtin.delete_ #[t, d.k] ty #[.map (some b), d.val a]).run Tryd.prog W = .ok (.tuple #[]) (setBlock W b o')) ∧ Mo d (some o') (upd f a none) (if (f a).isSome then c - 1 else c) := by
  obtain ⟨es, clock, rfl, E, rfl⟩ := h
  obtain ⟨l, hl⟩ := G.key a ha
  rcases E.find G ha with ⟨h1, h2, h3⟩ | ⟨j, e0, h1, h2, hk, h3⟩
  · refine ⟨.map es clock, fun W ty hW => ?_, es, clock, rfl, ⟨E.st, E.ks, fun x u => ?_⟩, by simp [h1]⟩
    · simp [Builtin.delete_, run_underlying ht, MapKept.run_getObj_map hW, G.law.check W _ hl, h3, MapKept.run_setObj_map _ hW, Result.andThen, setBlock]
    · unfold upd
      split
      · rename_i hx; subst hx
        constructor
        · intro h; cases h
        · rintro ⟨y, hy, h5, _⟩; exact absurd h5 (h2 y hy)
      · exact E.at_ x u
  · have hjl : j < es.toList.length := (List.getElem?_eq_some_iff.1 h2).1
    have hjs : j < es.size := by simpa using hjl
    have hsub : (es.eraseIdxIfInBounds j).toList = es.toList.eraseIdx j := by
      unfold Array.eraseIdxIfInBounds
      rw [dif_pos hjs]
      simp
    have hst := ((stamped_iff _ _).1 E.st).2.2
    have who : ∀ x, x ∈ es.toList.eraseIdx j ↔ x ∈ es.toList ∧ x.key ≠ d.val a := by
      intro x
      rw [List.mem_eraseIdx_iff_getElem?]
      constructor
      · rintro ⟨i, hne, hi⟩
        exact ⟨List.mem_of_getElem? hi, fun hxk => hne (idx_eq hst hi h2 (hxk.trans hk.symm))⟩
      · rintro ⟨hx, hxk⟩
        obtain ⟨i, hi⟩ := List.getElem?_of_mem hx
        refine ⟨i, fun e1 => hxk ?_, hi⟩
        rw [e1, h2] at hi
        cases hi
        exact hk
    refine ⟨.map (es.eraseIdxIfInBounds j) clock, fun W ty hW => ?_, es.eraseIdxIfInBounds j, clock, rfl, ⟨stamped_erase E.st j, fun x hx => ?_, fun x u => ?_⟩, ?_⟩
    · simp [Builtin.delete_, run_underlying ht, MapKept.run_getObj_map hW, G.law.check W _ hl, h3, MapKept.run_setObj_map _ hW, Result.andThen, setBlock]
    · rw [hsub] at hx
      exact E.ks x ((who x).1 hx).1
    · simp only [hsub, upd]
      by_cases hx : x = a
      · subst hx
        rw [if_pos rfl]
        constructor
        · intro h; cases h
        · rintro ⟨y, hy, h5, _⟩; exact absurd h5 ((who y).1 hy).2
      · rw [if_neg hx, E.at_]
        constructor
        · rintro ⟨y, hy, h5, h6⟩; exact ⟨y, (who y).2 ⟨hy, fun h7 => hx (G.inj _ _ (h5.symm.trans h7))⟩, h5, h6⟩
        · rintro ⟨y, hy, h5, h6⟩; exact ⟨y, ((who y).1 hy).1, h5, h6⟩
    · rw [h1]
      simp only [Option.isSome_some, if_true]
      have := congrArg List.length hsub
      rw [List.length_eraseIdx_of_lt hjl, Array.length_toList, Array.length_toList] at this
      exact this

/-- A range over a map under way: 'left' says which keys are still to come, cnt how many. -/
def Rg (d : Kd α) (b : Nat) (ob oi : Option Obj) (f : α → Option Value) (left : α → Prop) (cnt : Nat) : Prop :=
  ∃ es clock since seen c0, ob = some (.map es clock) ∧ Ent d es clock f ∧ oi = some (.mapIter (some b) since seen c0) ∧ (∀ x ∈ es.toList, x.born < since) ∧ (leftOf es seen).size = cnt ∧
    (∀ a, left a ↔ ∃ e ∈ es.toList, e.key = d.val a ∧ seen.contains e.born = false) ∧ since ≤ c0 ∧ since ≤ clock

theorem Rg.left_eq {w : World} {b r : Nat} {f : α → Option Value} {left : α → Prop} {cnt : Nat} (h : Rg d b w.heap[b]? w.heap[r]? f left cnt) : w.rangeLeft b r = cnt := by
  obtain ⟨es, clock, since, seen, c0, hb, _, hr, _, hc, _⟩ := h
  simp only [World.rangeLeft, hb, hr]
  exact hc
theorem Rg.mo {b : Nat} {ob oi : Option Obj} {f : α → Option Value} {left : α → Prop} {cnt : Nat} (h : Rg d b ob oi f left cnt) : ∃ c, Mo d ob f c := by
  obtain ⟨es, clock, since, seen, c0, hb, E, _⟩ := h
  exact ⟨_, es, clock, hb, E, rfl⟩

/-- 'range m'. -/
theorem Mo.range {o : Option Obj} {f : α → Option Value} {c : Nat} (h : Mo d o f c) {t e : TypeId} (ht : Tryd.prog.underlying t = some (.map d.k e)) (b : Nat) (w : World) (hW : w.heap[b]? = o) :
    ∃ oi, (Instr.range t (.map (some b))).run Tryd.prog w = .ok (.pointer (some ⟨w.heap.size, 0, none⟩)) (w.alloc oi) ∧ ∃ cnt, Rg d b o (some oi) f (fun a => ∃ v, f a = some v) cnt := by
  obtain ⟨es, clock, rfl, E, _⟩ := h
  refine ⟨.mapIter (some b) clock #[] clock, run_range_map w t d.k e b es clock ht hW, _, es, clock, clock, #[], clock, rfl, E, rfl, E.st.1, rfl, fun a => ?_, Nat.le_refl _, Nat.le_refl _⟩
  constructor
  · rintro ⟨v, hv⟩
    obtain ⟨x, hx, h1, _⟩ := (E.at_ a v).1 hv
    exact ⟨x, hx, h1, by simp⟩
  · rintro ⟨x, hx, h1, _⟩
    exact ⟨x.val, (E.at_ a x.val).2 ⟨x, hx, h1, rfl⟩⟩

/-- The step. -/
theorem Rg.next (G : d.Good) {w : World} {b r : Nat} {f : α → Option Value} {left : α → Prop} {cnt : Nat} (h : Rg d b w.heap[b]? w.heap[r]? f left cnt) (ty : TypeId) :
    ((∀ a, ¬ left a) ∧ (Instr.next (.pointer (some ⟨r, 0, none⟩)) false ty).run Tryd.prog w = .ok (.tuple #[.bool false]) w) ∨
    ∃ a v w' cnt', d.ok a ∧ left a ∧ f a = some v ∧ (Instr.next (.pointer (some ⟨r, 0, none⟩)) false ty).run Tryd.prog w = .ok (.tuple #[.bool true, d.val a, v]) w' ∧
      Rg d b w'.heap[b]? w'.heap[r]? f (fun x => left x ∧ x ≠ a) cnt' ∧ cnt' < cnt ∧ w.grownBy w' (some r) ∧ w'.heap.size = w.heap.size ∧ (Instr.entry (.pointer (some ⟨r, 0, none⟩))).run Tryd.prog w' = .ok (.tuple #[d.val a, v]) w' := by
  obtain ⟨es, clock, since, seen, c0, hb, E, hr, hold, rfl, hl, hsc, hsk⟩ := h
  have hne : r ≠ b := by
    intro e
    rw [e, hb] at hr
    cases hr
  rcases run_next_at (P := Tryd.prog) w ty r b since c0 seen es clock hr hb hold hsc with ⟨h0, hrun⟩ | ⟨e, he, w1, hal, hrun⟩
  · refine .inl ⟨fun a ha => ?_, hrun⟩
    obtain ⟨x, hx, _, h2⟩ := (hl a).1 ha
    rw [all_seen es seen h0 x hx] at h2
    cases h2
  · obtain ⟨hem, hes⟩ := mem_left he
    obtain ⟨a, hok, hka⟩ := E.ks e hem
    have hr1 : w1.heap[r]? = some (.mapIter (some b) since seen c0) := by rcases hal with rfl | rfl <;> exact hr
    have hb1 : w1.heap[b]? = some (.map es clock) := by rcases hal with rfl | rfl <;> exact hb
    have hset := heap_set (o' := .mapIter (some b) since (seen.push e.born) clock) hr1
    have hb' : (setBlock w1 r (.mapIter (some b) since (seen.push e.born) clock)).heap[b]? = some (.map es clock) := (hset.2 b (fun e1 => hne e1.symm)).trans hb1
    have hst := (stamped_iff es clock).1 E.st
    refine .inr ⟨a, e.val, _, _, hok, (hl a).2 ⟨e, hem, hka, hes⟩, (E.at_ a e.val).2 ⟨e, hem, hka, rfl⟩, by rw [← hka]; exact hrun,
      ⟨es, clock, since, seen.push e.born, clock, hb', E, hset.1, hold, rfl, fun x => ?_, hsk, hsk⟩, left_shrinks es seen e he, ?_, ?_,
      by rw [← hka]; exact run_entry_at _ r b since seen es clock e hset.1 hb' hem hst.2.1⟩
    · show (left x ∧ x ≠ a) ↔ _
      rw [hl x]
      constructor
      · rintro ⟨⟨y, hy, h1, h2⟩, hxa⟩
        refine ⟨y, hy, h1, ?_⟩
        rw [contains_push, h2]
        simp only [Bool.false_or, beq_eq_false_iff_ne]
        intro hbe
        obtain rfl := born_inj hst.2.1 hy hem hbe
        exact hxa (G.inj _ _ (h1.symm.trans hka))
      · rintro ⟨y, hy, h1, h2⟩
        rw [contains_push] at h2
        simp only [Bool.or_eq_false_iff, beq_eq_false_iff_ne] at h2
        refine ⟨⟨y, hy, h1, h2.1⟩, fun hxa => h2.2 ?_⟩
        subst hxa
        rw [entry_eq_of_key hst.2.2 hy hem (h1.trans hka.symm)]
    · rcases hal with rfl | rfl <;> exact ⟨rfl, rfl, rfl, by simp [setBlock], fun i _ hi => hset.2 i (fun e1 => hi (by rw [e1]))⟩
    · rcases hal with rfl | rfl <;> simp [setBlock]

end

end Go.Proofs.YtmeklhlojogdnaaDoor
