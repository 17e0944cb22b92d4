/-
  Steps of a region that draws, for AttrNone: 'append(nil, l...)' of numbers, 'append(row, 0, 0)', and what the block of the new attribute holds at the end. Conditions: at most 1000 numbers.
-/
import Derived.Test.YtiedagbboednkaaJn
import Derived.Deep.RegionLaw
import Derived.Deep.AppendLies
namespace Go.Proofs.Ytiedagbboednkaa
open Go.RowKit

theorem ints_one (k : IntKind) (xs : List Int) : ∀ u ∈ xs.map (Value.int k), u.oneCell' = true := by
  intro u hu
  obtain ⟨n, _, rfl⟩ := List.mem_map.1 hu
  rfl

theorem run_appI (w : World) (base ty : Nat) (B : Nat) (A : Option Addr) (c : Nat) (xs : List Int) (hs : Sl w B .i64 A xs) (hl : xs.length ≤ 1000) (hbase : base ≤ w.heap.size) :
    ∃ v' w', (Builtin.append_ #[22, 22] ty #[.slice none 0 0, .slice A xs.length c]).run Try.prog w = .ok v' w' ∧ w'.ownsRow base 3 1 v' xs.length (xs.map (Value.int .i64)) ∧ w.grownBy w' none := by
  obtain ⟨i0, hi, hz0, hz1, hz2⟩ := info_parts info3
  rcases A with _ | ad
  · have hn : xs = [] := by
      rcases hs with h | ⟨b, off, h, _⟩
      · exact h
      · cases h
    subst hn
    refine ⟨.slice none 0 0, w, ?_, World.ownsRow_nil _ _ _ _, World.grownBy.refl w _⟩
    simp [Builtin.append_, run_underlying Try.underlying22, sizeOf, typeInfo, hi, Builtin.lenOf, Builtin.firstCells]
  · obtain ⟨v', w', h1, h2, h3, _⟩ := run_append_own (P := Try.prog) w base 22 ty 3 i0 _ 1 8 Try.underlying22 hi hz0 hz1 hz2 rfl (by decide) (.slice none 0 0) 0 [] (World.ownsRow_nil _ _ _ _) ad xs.length c (xs.map (Value.int .i64)) (by simp)
      (fun j u hu => by
        rcases hs with rfl | ⟨b, off, h, _, hc⟩
        · simp at hu
        · cases h
          rw [List.getElem?_map] at hu
          obtain ⟨x, hx, rfl⟩ := Option.map_eq_some_iff.1 hu
          rw [Addr.add_lit]
          exact hc j x hx) (ints_one .i64 xs) (by unfold maxLen; omega) (by omega) hbase
    refine ⟨v', w', h1, ?_, h3⟩
    rw [Nat.zero_add, List.nil_append] at h2
    exact h2

/-- A step that is made in the world w (a guard: to be tried with reducible unfolding alone). -/
theorem at_world (w : World) {ops : Array Oper} {o : Oper} {a : Act} {K : Act → World → Prop} {Q : Exit → Act → World → Prop} {E : Prop} (h : if Region.wanted o (yielded ops a.tmps) = true then Oper.wp Try.prog o a w K Q else E) : if Region.wanted o (yielded ops a.tmps) = true then Oper.wp Try.prog o a w K Q else E := h

/-- 'append(nil, l...)' as a step of a region that draws. -/
theorem step_appI {ops : Array Oper} {o : Oper} {a : Act} {w : World} {K : Act → World → Prop} {Q : Exit → Act → World → Prop} {E : Prop} (hgd : o.guard = none) (s x : Operand)
    (ho : o.op = .call { callee := .builtin .append, args := #[s, x], argTypes := #[22, 22] }) (hv : a.eval s = .slice none 0 0) (A : Option Addr) (c : Nat) (xs : List Int) (hx : a.eval x = .slice A xs.length c)
    (W : World) (hb : Below W.heap.size W w) (hs : Sl W W.heap.size .i64 A xs) (hl : xs.length ≤ 1000)
    (h : ∀ v' w', w'.ownsRow W.heap.size 3 1 v' xs.length (xs.map (Value.int .i64)) → (∀ (k : Nat) (o : Obj), w.heap[k]? = some o → w'.heap[k]? = some o) → Below W.heap.size W w' → K (a.put o.dst v') w') : if Region.wanted o (yielded ops a.tmps) = true then Oper.wp Try.prog o a w K Q else E := by
  have hw : Region.wanted o (yielded ops a.tmps) = true := by simp [Region.wanted, hgd]
  rw [if_pos hw]
  obtain ⟨v', w', hr, h2, h3⟩ := run_appI w W.heap.size o.type W.heap.size A c xs (hs.below hb) hl hb.size
  unfold Oper.wp execOp
  simp only [ho, resolve, invoke, builtin, Sem.run_bind, Sem.run_pure, Result.andThen_ok, List.map_toArray, List.map_cons, List.map_nil, hv, hx, hr]
  exact h v' w' h2 (fun k o hk => (h3.block k (lt_of_block hk) (by simp)).trans hk) (hb.grown h3 hb.size (by simp))

/-- The block of a new attribute, as it is laid. -/
abbrev Z24 : Obj := .cells #[.int .i64 0, .slice none 0 0] 24 (0, 0)
/-- Two noughts. -/
abbrev Z3 : Obj := .cells #[.int .i64 0, .int .i64 0] 3 (0, 0)

theorem rb_alloc {v : World} {B : Nat} {a : Int} {A : Option Addr} {n c : Nat} (h : Rb v B a A n c) (o : Obj) : Rb (v.alloc o) B a A n c :=
  h.on (D := v.heap.size) ((Below.refl _ _).alloc (Nat.le_refl _) o) (World.block_lt_of_cell? v _ h.1)
theorem rb_set {v : World} {B L i : Nat} {a : Int} {A : Option Addr} {n c : Nat} {u : Value} (h : Rb v B a A n c) (hne : B < L) : Rb (v.setCell ⟨L, i, none⟩ u) B a A n c :=
  have hb : Below L v (v.setCell ⟨L, i, none⟩ u) := (Below.refl L v).setCell (show L ≤ L from Nat.le_refl L) u
  h.on hb hne
theorem al_new (w : World) (o : Obj) : (w.alloc o).heap[w.heap.size]? = some o := heap_alloc_new w o
theorem al2_old (w : World) (o o' : Obj) : ((w.alloc o).alloc o').heap[w.heap.size]? = some o := (heap_alloc_old (w.alloc o) o' (by simp)).trans (heap_alloc_new w o)
theorem al2_new (w : World) (o o' : Obj) : ((w.alloc o).alloc o').heap[w.heap.size + 1]? = some o' := by
  have := heap_alloc_new (w.alloc o) o'
  rwa [show (w.alloc o).heap.size = w.heap.size + 1 by simp] at this

/-- 'append(row, 0, 0)' as a step of a region that draws. -/
theorem step_twoI {ops : Array Oper} {o : Oper} {a : Act} {w : World} {K : Act → World → Prop} {Q : Exit → Act → World → Prop} {E : Prop} (hgd : o.guard = none) (s x : Operand)
    (ho : o.op = .call { callee := .builtin .append, args := #[s, x], argTypes := #[22, 22] }) (v : Value) (hv : a.eval s = v) (xs : List Int) (W : World) (hown : w.ownsRow W.heap.size 3 1 v xs.length (xs.map (Value.int .i64)))
    (G : Nat) (hx : a.eval x = .slice (some ⟨G, 0, none⟩) 2 2) (hG : w.heap[G]? = some Z3) (hb : Below W.heap.size W w) (hl : xs.length ≤ 1000)
    (h : ∀ g cap w', w'.ownsRow W.heap.size 3 1 (.slice (some ⟨g, 0, none⟩) (xs.length + 2) cap) (xs.length + 2) ((xs ++ [0, 0]).map (Value.int .i64)) → (∀ L : Nat, w.heap[L]? = some Z24 → w'.heap[L]? = some Z24) → Below W.heap.size W w' → K (a.put o.dst (.slice (some ⟨g, 0, none⟩) (xs.length + 2) cap)) w') :
    if Region.wanted o (yielded ops a.tmps) = true then Oper.wp Try.prog o a w K Q else E := by
  obtain ⟨i0, hi, hz0, hz1, hz2⟩ := info_parts info3
  refine step_append_lies w hgd s x 22 ho W.heap.size 3 i0 _ 1 8 Try.underlying22 hi hz0 hz1 hz2 rfl (by decide) v xs.length (xs.map (Value.int .i64)) hv hown ⟨G, 0, none⟩ 2 2 [.int .i64 0, .int .i64 0] hx rfl ?_ (by intro u hu; simp at hu; subst hu; rfl) (by decide) (by unfold maxLen; omega) (by omega) hb.size w.heap.size rfl ?_
  · intro j u hu
    rw [Addr.add_lit]
    match j, hu with
    | 0, hu => simp at hu; subst hu; rw [cell_of_row w G 0 _ 3 _ hG]; rfl
    | 1, hu => simp at hu; subst hu; rw [cell_of_row w G 1 _ 3 _ hG]; rfl
  · intro g cap w' own' grow' _ _
    refine h g cap w' ?_ (fun L hL => ?_) (hb.grown grow' hb.size (fun q hq => (hown.lt q hq).1))
    · rw [List.map_append]; exact own'
    · refine (grow'.block L (lt_of_block hL) (fun he => ?_)).trans hL
      rcases hown.2 with ⟨rfl, _⟩ | ⟨g', cap', cur, rfl, _, hh, _⟩
      · simp [Value.ownBlock] at he
      · simp only [Value.ownBlock, Option.some.injEq] at he
        rw [he, hh] at hL
        simp [Z24] at hL

/-- What the region leaves. -/
def Lg (w3 : World) (a0 : Int) (x0 : List Int) (L : Nat) (wc : World) : Prop :=
  ∃ (E : Option Addr) (d : Nat), Rb wc L a0 E (x0.length + 2) d ∧ Sl wc wc.heap.size .i64 E (x0 ++ [0, 0]) ∧ Below w3.heap.size w3 wc ∧ w3.heap.size ≤ L ∧ L < wc.heap.size

theorem fin_new {w3 w4 : World} {a0 : Int} {x0 : List Int} {g c : Nat} (own : w4.ownsRow w3.heap.size 3 1 (.slice (some ⟨g, 0, none⟩) (x0.length + 2) c) (x0.length + 2) ((x0 ++ [0, 0]).map (Value.int .i64))) (hb : Below w3.heap.size w3 w4) :
    Lg w3 a0 x0 w4.heap.size (w4.alloc (.cells #[.int .i64 a0, .slice (some ⟨g, 0, none⟩) (x0.length + 2) c] 24)) := by
  have e : (x0 ++ [0, 0]).length = x0.length + 2 := by simp
  rw [← e] at own
  obtain ⟨A, c', hv, hs, _⟩ := own_slice own
  simp only [Value.slice.injEq] at hv
  obtain ⟨rfl, _, rfl⟩ := hv
  exact ⟨_, _, rb_new w4 a0 _ _ _, hs.up ((Below.refl _ _).alloc (Nat.le_refl _) _), hb.alloc hb.size _, hb.size, by simp⟩

theorem fin_set {w3 w4 : World} {a0 : Int} {x0 : List Int} {g c L : Nat} (own : w4.ownsRow w3.heap.size 3 1 (.slice (some ⟨g, 0, none⟩) (x0.length + 2) c) (x0.length + 2) ((x0 ++ [0, 0]).map (Value.int .i64))) (hb : Below w3.heap.size w3 w4) (hL : w4.heap[L]? = some Z24) (hLb : w3.heap.size ≤ L) :
    Lg w3 a0 x0 L ((w4.setCell ⟨L, 0, none⟩ (.int .i64 a0)).setCell ⟨L, 1, none⟩ (.slice (some ⟨g, 0, none⟩) (x0.length + 2) c)) := by
  have hA : Ax w4 L 0 none 0 0 := hL
  have e : (x0 ++ [0, 0]).length = x0.length + 2 := by simp
  have hne : L ≠ g := fun he => by
    rcases own.2 with ⟨h0, _⟩ | ⟨g', cap', cur, hv, _, hh, _⟩
    · cases h0
    · simp only [Value.slice.injEq, Option.some.injEq, Addr.mk.injEq] at hv
      rw [← hv.1.1, ← he, hL] at hh
      simp [Z24] at hh
  rw [← e] at own
  obtain ⟨A, c', hv, hs, _⟩ := own_slice own
  simp only [Value.slice.injEq] at hv
  obtain ⟨rfl, _, rfl⟩ := hv
  refine ⟨_, _, ((hA.set0 a0).set1 _ _ _).rb, ?_, (hb.setCell hLb _).setCell hLb _, hLb, by simpa using hA.lt⟩
  rcases hs with h | ⟨b, off, he, hlt, hc⟩
  · exact .inl h
  · simp only [Option.some.injEq, Addr.mk.injEq] at he
    obtain ⟨rfl, rfl, _⟩ := he
    refine .inr ⟨g, 0, rfl, by simpa using hlt, fun j x hx => ?_⟩
    rw [World.cell?_setCell_other _ _ _ _ (fun hh => hne (by have := congrArg Addr.block hh; simp at this; omega)), World.cell?_setCell_other _ _ _ _ (fun hh => hne (by have := congrArg Addr.block hh; simp at this; omega))]
    exact hc j x hx

end Go.Proofs.Ytiedagbboednkaa
