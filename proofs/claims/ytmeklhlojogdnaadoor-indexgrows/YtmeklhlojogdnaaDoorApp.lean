/-
  Words for 'append' of what is known of instances, as steps of a region that draws; what such a region of IndexGrows leaves. No program's function is walked here. Conditions: at most 1000 that are known.
-/
import Derived.Test.YtmeklhlojogdnaaDoorAwk
import Derived.Deep.RegionLaw
import Derived.Deep.AppendLies
import Derived.OwnWalk
namespace Go.Proofs.YtmeklhlojogdnaaDoor
open Go.RowKit
set_option linter.unusedVariables false

theorem run_app9 (w : World) (base ty B : Nat) (A : Option Addr) (c : Nat) (l : List Kn) (hs : Ns w B A l) (hl : l.length ≤ 1000) (hbase : base ≤ w.heap.size) :
    ∃ v' w', (Builtin.append_ #[22, 22] ty #[.slice none 0 0, .slice A l.length c]).run Tryd.prog w = .ok v' w' ∧ w'.ownsRow base 29 9 v' l.length (ncs l) ∧ w.grownBy w' none := by
  obtain ⟨i0, hi, hz0, hz1, hz2⟩ := info_parts info29
  rcases A with _ | ad
  · have hn : l = [] := by
      rcases hs with h | ⟨b, off, h, _⟩
      · exact h
      · cases h
    subst hn
    refine ⟨.slice none 0 0, w, ?_, World.ownsRow_nil _ _ _ _, World.grownBy.refl w _⟩
    simp [Builtin.append_, run_underlying Tryd.underlying22, sizeOf, typeInfo, hi, Builtin.lenOf, Builtin.firstCells]
  · obtain ⟨v', w', h1, h2, h3, _⟩ := run_append_own (P := Tryd.prog) w base 22 ty 29 i0 _ 9 80 Tryd.underlying22 hi hz0 hz1 hz2 rfl (by decide) (.slice none 0 0) 0 [] (World.ownsRow_nil _ _ _ _) ad l.length c (ncs l) (ncs_len l)
      (fun j u hu => by
        rcases hs with rfl | ⟨b, off, h, _, hc⟩
        · simp [ncs] at hu
        · cases h
          rw [Addr.add_lit]
          exact ncs_read l off hc j u hu) (ncs_one l) (by unfold maxLen; omega) (by omega) hbase
    refine ⟨v', w', h1, ?_, h3⟩
    rw [Nat.zero_add, List.nil_append] at h2
    exact h2

/-- A step that is made in the world w (a guard: to be tried with reducible unfolding alone). -/
theorem at_world (w : World) {ops : Array Oper} {o : Oper} {a : Act} {K : Act → World → Prop} {Q : Exit → Act → World → Prop} {E : Prop} (h : if Region.wanted o (yielded ops a.tmps) = true then Oper.wp Tryd.prog o a w K Q else E) : if Region.wanted o (yielded ops a.tmps) = true then Oper.wp Tryd.prog o a w K Q else E := h

/-- 'append(nil, l...)' as a step of a region that draws. -/
theorem step_app9 {ops : Array Oper} {o : Oper} {a : Act} {w : World} {K : Act → World → Prop} {Q : Exit → Act → World → Prop} {E : Prop} (hgd : o.guard = none) (s x : Operand)
    (ho : o.op = .call { callee := .builtin .append, args := #[s, x], argTypes := #[22, 22] }) (hv : a.eval s = .slice none 0 0) (A : Option Addr) (c : Nat) (l : List Kn) (hx : a.eval x = .slice A l.length c)
    (W : World) (hb : Below W.heap.size W w) (hs : Ns W W.heap.size A l) (hl : l.length ≤ 1000)
    (h : ∀ v' w', w'.ownsRow W.heap.size 29 9 v' l.length (ncs l) → (∀ (k : Nat) (o : Obj), w.heap[k]? = some o → w'.heap[k]? = some o) → Below W.heap.size W w' → K (a.put o.dst v') w') : if Region.wanted o (yielded ops a.tmps) = true then Oper.wp Tryd.prog o a w K Q else E := by
  have hw : Region.wanted o (yielded ops a.tmps) = true := by simp [Region.wanted, hgd]
  rw [if_pos hw]
  obtain ⟨v', w', hr, h2, h3⟩ := run_app9 w W.heap.size o.type W.heap.size A c l (hs.below hb (Nat.le_refl _)) hl hb.size
  unfold Oper.wp execOp
  simp only [ho, resolve, invoke, builtin, Sem.run_bind, Sem.run_pure, Result.andThen_ok, List.map_toArray, List.map_cons, List.map_nil, hv, hx, hr]
  exact h v' w' h2 (fun k o hk => (h3.block k (lt_of_block hk) (by simp)).trans hk) (hb.grown h3 hb.size (by simp))

/-- The block of a new attribute, as it is laid. -/
abbrev Z32 : Obj := .cells #[.int .i64 0, .slice none 0 0] 32 (0, 0)
/-- What is known of one, as it is laid for an append. -/
abbrev Z29 (k : Kn) : Obj := .cells #[.int .i64 k.i.1, .int .i64 k.i.2, .int .i64 k.c.u, .int .i64 k.c.s, .int .i64 k.c.k, .int .i64 k.c.h, .int .i64 k.c.n, .string k.c.t, .int .i64 k.q] 29 (0, 0)
theorem al_new (w : World) (o : Obj) : (w.alloc o).heap[w.heap.size]? = some o := heap_alloc_new w o
theorem al2_old (w : World) (o o' : Obj) : ((w.alloc o).alloc o').heap[w.heap.size]? = some o := (Below.heap_alloc (w.alloc o) o' w.heap.size (by simp)).trans (heap_alloc_new w o)
theorem al2_new (w : World) (o o' : Obj) : ((w.alloc o).alloc o').heap[w.heap.size + 1]? = some o' := by
  have := heap_alloc_new (w.alloc o) o'
  rwa [show (w.alloc o).heap.size = w.heap.size + 1 by simp] at this

/-- 'append(row, k)' as a step of a region that draws. -/
theorem step_one9 {ops : Array Oper} {o : Oper} {a : Act} {w : World} {K : Act → World → Prop} {Q : Exit → Act → World → Prop} {E : Prop} (hgd : o.guard = none) (s x : Operand)
    (ho : o.op = .call { callee := .builtin .append, args := #[s, x], argTypes := #[22, 22] }) (v : Value) (hv : a.eval s = v) (l : List Kn) (W : World) (hown : w.ownsRow W.heap.size 29 9 v l.length (ncs l))
    (k : Kn) (G : Nat) (hx : a.eval x = .slice (some ⟨G, 0, none⟩) 1 1) (hG : w.heap[G]? = some (Z29 k)) (hb : Below W.heap.size W w) (hl : l.length ≤ 1000)
    (h : ∀ g cap w', Ns w' w'.heap.size (some ⟨g, 0, none⟩) (l ++ [k]) → (∀ L : Nat, w.heap[L]? = some Z32 → w'.heap[L]? = some Z32) → Below W.heap.size W w' → K (a.put o.dst (.slice (some ⟨g, 0, none⟩) (l.length + 1) cap)) w') :
    if Region.wanted o (yielded ops a.tmps) = true then Oper.wp Tryd.prog o a w K Q else E := by
  obtain ⟨i0, hi, hz0, hz1, hz2⟩ := info_parts info29
  refine step_append_lies w hgd s x 22 ho W.heap.size 29 i0 _ 9 80 Tryd.underlying22 hi hz0 hz1 hz2 rfl (by decide) v l.length (ncs l) hv hown ⟨G, 0, none⟩ 1 1 (ncs [k]) hx rfl ?_ (ncs_one [k]) (by decide) (by unfold maxLen; omega) (by omega) hb.size w.heap.size rfl ?_
  · intro j u hu
    rw [Addr.add_lit]
    refine ncs_read (b := G) [k] 0 (fun i x hx => ?_) j u hu
    match i, hx with
    | 0, hx =>
      simp at hx; subst hx
      refine ⟨?_, ?_, ?_, ?_, ?_, ?_, ?_, ?_, ?_⟩ <;> (rw [cell_of_row w G _ _ 29 _ hG]; rfl)
    | i + 1, hx => simp at hx
  · intro g cap w' own' grow' _ _
    refine h g cap w' ?_ (fun L hL => ?_) (hb.grown grow' hb.size (fun q hq => (hown.lt q hq).1))
    · have e : w'.ownsRow W.heap.size 29 9 (.slice (some ⟨g, 0, none⟩) (l ++ [k]).length cap) (l ++ [k]).length (ncs (l ++ [k])) := by
        rw [List.length_append, ncs_append]; exact own'
      obtain ⟨A', c', hv', hns, _⟩ := own_ns e
      cases hv'
      exact hns
    · refine (grow'.block L (lt_of_block hL) (fun he => ?_)).trans hL
      rcases hown.2 with ⟨rfl, _⟩ | ⟨g', cap', cur, rfl, _, hh, _⟩
      · simp [Value.ownBlock] at he
      · simp only [Value.ownBlock, Option.some.injEq] at he
        rw [he, hh] at hL
        simp [Z32] at hL

/-- What the region leaves: the second attribute in its box. -/
def Lg (w2 : World) (P : Int × Int → Int → Prop) (N L : Nat) (wc : World) : Prop :=
  ∃ sb db gb, At.Ax wc L sb (some ⟨gb, 0, none⟩) N N ∧ At.Rx wc gb db ∧ IsAt P N sb db ∧ Below w2.heap.size w2 wc ∧ w2.heap.size ≤ L ∧ w2.heap.size ≤ gb

theorem fin_new {w2 w5 : World} {P : Int × Int → Int → Prop} {N : Nat} {sb : Int} {db : List Int} {gb : Nat} (hR : At.Rx w5 gb db) (hI : IsAt P N sb db) (hb : Below w2.heap.size w2 w5) (hg : w2.heap.size ≤ gb) :
    Lg w2 P N w5.heap.size (w5.alloc (.cells #[.int .i64 sb, .slice (some ⟨gb, 0, none⟩) N N] 32)) :=
  ⟨sb, db, gb, At.ax_new w5 sb _ N N, hR.old _, hI, hb.alloc hb.size _, hb.size, hg⟩
theorem fin_set {w2 w5 : World} {P : Int × Int → Int → Prop} {N L : Nat} {sb : Int} {db : List Int} {gb : Nat} (hR : At.Rx w5 gb db) (hI : IsAt P N sb db) (hb : Below w2.heap.size w2 w5) (hL : w5.heap[L]? = some Z32) (hLb : w2.heap.size ≤ L) (hLg : L < gb) :
    Lg w2 P N L ((w5.setCell ⟨L, 0, none⟩ (.int .i64 sb)).setCell ⟨L, 1, none⟩ (.slice (some ⟨gb, 0, none⟩) N N)) := by
  have hA : At.Ax w5 L 0 none 0 0 := hL
  refine ⟨sb, db, gb, (hA.set0 sb).set1 _ _ _, (hR.other (by show gb ≠ L; omega) _).other (by show gb ≠ L; omega) _, hI, (hb.setCell (p := ⟨L, 0, none⟩) hLb _).setCell (p := ⟨L, 1, none⟩) hLb _, hLb, by omega⟩

end Go.Proofs.YtmeklhlojogdnaaDoor
