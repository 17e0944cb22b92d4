/-
  Rows of edges of the call's own, and what append makes of them. No program's function is walked here. No conditions.
-/
import Derived.Test.YtnfjfpiijikniaaAw
import Derived.Deep.RegionHeld3
import Derived.Deep.DrawnRows
import Derived.Deep.QuietTactic
import Derived.BigQuiet
import Derived.Deep.RegionLaw
import Derived.Deep.AppendLies
namespace Go.Proofs.Ytnfjfpiijikniaa.Gp
open Go.RowKit
set_option linter.unusedVariables false

/-- The cells of edges, one behind the other. -/
def eg2 : List (Int × Int) → List Value
  | [] => []
  | x :: l => .int .i64 x.1 :: .int .i64 x.2 :: eg2 l
theorem eg2_len : ∀ l, (eg2 l).length = l.length * 2
  | [] => rfl
  | x :: l => by simp only [eg2, List.length_cons, eg2_len l]; omega
theorem eg2_append : ∀ l m, eg2 (l ++ m) = eg2 l ++ eg2 m
  | [], m => rfl
  | x :: l, m => by simp [eg2, eg2_append l m]
theorem eg2_one : ∀ l, ∀ u ∈ eg2 l, u.oneCell' = true
  | [], u, h => by cases h
  | x :: l, u, h => by
    simp only [eg2, List.mem_cons] at h
    rcases h with rfl | rfl | h
    · rfl
    · rfl
    · exact eg2_one l u h
theorem eg2_read {w : World} {b : Nat} : ∀ (l : List (Int × Int)) (off : Nat) (hc : ∀ j x, l[j]? = some x → w.cell? ⟨b, off + j * 2, none⟩ = some (.int .i64 x.1) ∧ w.cell? ⟨b, off + j * 2 + 1, none⟩ = some (.int .i64 x.2)) (j : Nat) (u : Value), (eg2 l)[j]? = some u → w.cell? ⟨b, off + j, none⟩ = some u
  | [], off, hc, j, u, h => by simp [eg2] at h
  | x :: l, off, hc, j, u, h => by
    obtain ⟨q0, q1⟩ := hc 0 x rfl
    simp only [Nat.zero_mul, Nat.add_zero] at q0 q1
    match j, h with
    | 0, h => simp [eg2] at h; subst h; exact q0
    | 1, h => simp [eg2] at h; subst h; exact q1
    | j + 2, h =>
      have h' : (eg2 l)[j]? = some u := by simpa [eg2] using h
      have := eg2_read l (off + 2) (fun i y hy => by
        have := hc (i + 1) y (by simpa using hy)
        rw [show off + (i + 1) * 2 = off + 2 + i * 2 by omega] at this
        exact this) j u h'
      rw [show off + (j + 2) = off + 2 + j by omega]
      exact this
theorem eg2_at : ∀ (l : List (Int × Int)) (i : Nat) (x : Int × Int), l[i]? = some x → (eg2 l)[i * 2]? = some (.int .i64 x.1) ∧ (eg2 l)[i * 2 + 1]? = some (.int .i64 x.2)
  | [], i, x, h => by simp at h
  | y :: l, 0, x, h => by simp at h; subst h; exact ⟨rfl, rfl⟩
  | y :: l, i + 1, x, h => by
    obtain ⟨q0, q1⟩ := eg2_at l i x (by simpa using h)
    rw [show (i + 1) * 2 = i * 2 + 2 by omega]
    exact ⟨q0, q1⟩
/-- A row of edges of the call's own is a slice that reads as them. -/
theorem own_es {w : World} {base : Nat} {v : Value} {n : Nat} {l : List (Int × Int)} (h : w.ownsRow base 33 2 v n (eg2 l)) (hn : n = l.length) : ∃ A c, v = .slice A l.length c ∧ Es w w.heap.size A l := by
  subst hn
  rcases h.2 with ⟨h1, h2⟩ | ⟨g, cap, cur, h1, _⟩
  · exact ⟨none, 0, by rw [h1, h2], .inl (List.length_eq_zero_iff.1 h2)⟩
  · subst h1
    refine ⟨_, cap, rfl, .inr ⟨g, 0, rfl, (h.lt g rfl).2, fun i x hx => ?_⟩⟩
    have hc : ∀ j u, (eg2 l)[j]? = some u → w.cell? ⟨g, 0 + j, none⟩ = some u := fun j u hu => by
      have := h.cells (g := g) rfl j u hu
      rwa [Addr.add_lit] at this
    obtain ⟨q0, q1⟩ := eg2_at l i x hx
    exact ⟨hc _ _ q0, hc _ _ q1⟩
theorem info33 : (Try.prog.info? 33).map (fun i => (i.zero, i.size, i.bytes)) = some (some (.agg #[.int .i64 0, .int .i64 0]), 2, 16) := by kernel_rfl
theorem run_app2 (w : World) (base : Nat) (ty : TypeId) (v : Value) (l : List (Int × Int)) (hown : w.ownsRow base 33 2 v l.length (eg2 l)) (B : Nat) (A : Option Addr) (c : Nat) (news : List (Int × Int)) (hs : Es w B A news) (hl : l.length + news.length ≤ 1000) (hbase : base ≤ w.heap.size) :
    ∃ v' w', (Builtin.append_ #[22, 22] ty #[v, .slice A news.length c]).run Try.prog w = .ok v' w' ∧ w'.ownsRow base 33 2 v' (l ++ news).length (eg2 (l ++ news)) ∧ w.grownBy w' v.ownBlock := by
  obtain ⟨i0, hi, hz0, hz1, hz2⟩ := info_parts info33
  rcases A with _ | ad
  · have hn : news = [] := by
      rcases hs with h | ⟨b, off, h, _⟩
      · exact h
      · cases h
    subst hn
    refine ⟨v, w, ?_, by simpa using hown, World.grownBy.refl w _⟩
    rcases hown.2 with ⟨rfl, h0⟩ | ⟨g, cap, cur, rfl, _, _, hnc, _⟩
    · rw [show Try.prog = Try.prog from rfl]
      simp [Builtin.append_, run_underlying Try.underlying22, sizeOf, typeInfo, hi, Builtin.lenOf, Builtin.firstCells]
    · simp [Builtin.append_, run_underlying Try.underlying22, sizeOf, typeInfo, hi, Builtin.lenOf, Builtin.firstCells, hnc, storeCells]
  · obtain ⟨v', w', h1, h2, h3, _⟩ := run_append_own (P := Try.prog) w base 22 ty 33 i0 _ 2 16 Try.underlying22 hi hz0 hz1 hz2 rfl (by decide) v l.length (eg2 l) hown ad news.length c (eg2 news) (eg2_len news)
      (fun j u hu => by
        rcases hs with rfl | ⟨b, off, h, _, hc⟩
        · simp [eg2] at hu
        · cases h
          rw [Addr.add_lit]
          exact eg2_read news off hc j u hu) (eg2_one news) (by unfold maxLen; omega) (by omega) hbase
    refine ⟨v', w', h1, ?_, h3⟩
    rw [List.length_append, eg2_append]
    exact h2
/-- append(v, l...) as a step. -/
theorem step_app2 {ops : Array Oper} {o : Oper} {a : Act} {w : World} {K : Act → World → Prop} {Q : Exit → Act → World → Prop} {E : Prop} (hgd : o.guard = none) (s x : Operand)
    (ho : o.op = .call { callee := .builtin .append, args := #[s, x], argTypes := #[22, 22] }) (v : Value) (hv : a.eval s = v) (l : List (Int × Int)) (base : Nat) (hown : w.ownsRow base 33 2 v l.length (eg2 l))
    (A : Option Addr) (n c : Nat) (hx : a.eval x = .slice A n c) (news : List (Int × Int)) (hn : n = news.length) (B : Nat) (hs : Es w B A news) (hl : l.length + news.length ≤ 1000) (hbase : base ≤ w.heap.size)
    (h : ∀ v' w', w'.ownsRow base 33 2 v' (l ++ news).length (eg2 (l ++ news)) → w.grownBy w' v.ownBlock → K (a.put o.dst v') w') : if Region.wanted o (yielded ops a.tmps) = true then Oper.wp Try.prog o a w K Q else E := by
  subst hn
  have hw : Region.wanted o (yielded ops a.tmps) = true := by simp [Region.wanted, hgd]
  rw [if_pos hw]
  obtain ⟨v', w', hr, h2, h3⟩ := run_app2 w base o.type v l hown B A c news hs hl hbase
  unfold Oper.wp execOp
  simp only [ho, resolve, invoke, builtin, Sem.run_bind, Sem.run_pure, Result.andThen_ok, List.map_toArray, List.map_cons, List.map_nil, hv, hx, hr]
  exact h v' w' h2 h3
theorem wpList_app2 {w : World} {ops : Array Oper} {rest : List Oper} {o : Oper} {a : Act} {Q : Exit → Act → World → Prop} (hgd : o.guard = none) (s x : Operand)
    (ho : o.op = .call { callee := .builtin .append, args := #[s, x], argTypes := #[22, 22] }) (v : Value) (hv : a.eval s = v) (l : List (Int × Int)) (base : Nat) (hown : w.ownsRow base 33 2 v l.length (eg2 l))
    (A : Option Addr) (n c : Nat) (hx : a.eval x = .slice A n c) (news : List (Int × Int)) (hn : n = news.length) (B : Nat) (hs : Es w B A news) (hl : l.length + news.length ≤ 1000) (hbase : base ≤ w.heap.size)
    (h : ∀ v' w', w'.ownsRow base 33 2 v' (l ++ news).length (eg2 (l ++ news)) → w.grownBy w' v.ownBlock → wpList Try.prog ops Q rest (a.put o.dst v') w') : wpList Try.prog ops Q (o :: rest) a w := by
  subst hn
  obtain ⟨v', w', hr, h2, h3⟩ := run_app2 w base o.type v l hown B A c news hs hl hbase
  refine wpList_plain hgd fun K hK => ?_
  unfold Oper.wp execOp
  simp only [ho, resolve, invoke, builtin, Sem.run_bind, Sem.run_pure, Result.andThen_ok, List.map_toArray, List.map_cons, List.map_nil, hv, hx, hr]
  exact hK _ _ (h v' w' h2 h3)
theorem es_one (w : World) (x y : Int) (t : TypeId) : Es (w.alloc (.cells #[.int .i64 x, .int .i64 y] t)) (w.alloc (.cells #[.int .i64 x, .int .i64 y] t)).heap.size (some ⟨w.heap.size, 0, none⟩) [(x, y)] := es_alloc (fun i r hr => by
  rcases i with _ | i <;> simp at hr ⊢ ; subst hr; simp) t

end Go.Proofs.Ytnfjfpiijikniaa.Gp
