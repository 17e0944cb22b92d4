/-
  A slice of steps, and how one that came in is read. No program's function is walked here. No conditions.
-/
import Derived.Test.YtdeaaeejkpghaaaInOpen
import Derived.Test.YtdeaaeejkpghaaaInMv
namespace Go.Proofs.Ytdeaaeejkpghaaa.In
open Go.RowKit Go.ChangeShapes Go.WideShapes Go.ChangeAt Go.Joins Go.Deep
set_option linter.unusedVariables false

abbrev Sp := Sd × Option Addr × Nat
/-- A step's cells, from an offset on. -/
def Sq (w : World) (b o : Nat) (p : Sd) (A : Option Addr) (c : Nat) : Prop :=
  w.cell? ⟨b, o, none⟩ = some (.int .i64 p.g) ∧ w.cell? ⟨b, o + 1, none⟩ = some (.int .i64 p.x) ∧ w.cell? ⟨b, o + 2, none⟩ = some (.int .i64 p.y) ∧ w.cell? ⟨b, o + 3, none⟩ = some (.int .i64 p.u) ∧ w.cell? ⟨b, o + 4, none⟩ = some (.int .i64 p.s) ∧ w.cell? ⟨b, o + 5, none⟩ = some (.int .i64 p.k) ∧ w.cell? ⟨b, o + 6, none⟩ = some (.int .i64 p.h) ∧ w.cell? ⟨b, o + 7, none⟩ = some (.int .i64 p.n) ∧ w.cell? ⟨b, o + 8, none⟩ = some (.string p.t) ∧ w.cell? ⟨b, o + 9, none⟩ = some (.int .i64 p.q) ∧ w.cell? ⟨b, o + 10, none⟩ = some (.slice A p.xs.length c)
/-- A slice that reads as steps. -/
def Ss (w : World) (B : Nat) (A : Option Addr) (l : List Sp) : Prop :=
  l = [] ∨ ∃ b off, A = some ⟨b, off, none⟩ ∧ b < B ∧ ∀ j x, l[j]? = some x → Sq w b (off + j * 11) x.1 x.2.1 x.2.2 ∧ At.Sl w B .i64 x.2.1 x.1.xs
theorem Sq.on {w w' : World} {B b o : Nat} {p : Sd} {A : Option Addr} {c : Nat} (h : Sq w b o p A c) (hb : Below B w w') (hB : b < B) : Sq w' b o p A c := by
  obtain ⟨c0, c1, c2, c3, c4, c5, c6, c7, c8, c9, c10⟩ := h
  exact ⟨(hb.cell (p := ⟨b, o, none⟩) hB).trans c0, (hb.cell (p := ⟨b, o + 1, none⟩) hB).trans c1, (hb.cell (p := ⟨b, o + 2, none⟩) hB).trans c2, (hb.cell (p := ⟨b, o + 3, none⟩) hB).trans c3, (hb.cell (p := ⟨b, o + 4, none⟩) hB).trans c4, (hb.cell (p := ⟨b, o + 5, none⟩) hB).trans c5, (hb.cell (p := ⟨b, o + 6, none⟩) hB).trans c6, (hb.cell (p := ⟨b, o + 7, none⟩) hB).trans c7, (hb.cell (p := ⟨b, o + 8, none⟩) hB).trans c8, (hb.cell (p := ⟨b, o + 9, none⟩) hB).trans c9, (hb.cell (p := ⟨b, o + 10, none⟩) hB).trans c10⟩
theorem Ss.to {w w' : World} {B : Nat} {A : Option Addr} {l : List Sp} (h : Ss w B A l) (hb : Below B w w') (hB : B ≤ w'.heap.size) : Ss w' w'.heap.size A l := by
  rcases h with rfl | ⟨b, off, h1, h2, h3⟩
  · exact .inl rfl
  · exact .inr ⟨b, off, h1, by omega, fun j x hx => ⟨(h3 j x hx).1.on hb h2, (h3 j x hx).2.to hb hB⟩⟩
theorem list_of {α : Type} {P : Nat → α → Prop} (n : Nat) (h : ∀ i, i < n → ∃ x, P i x) : ∃ l : List α, l.length = n ∧ ∀ i x, l[i]? = some x → P i x := by
  induction n with
  | zero => exact ⟨[], rfl, fun i x hx => by simp at hx⟩
  | succ n ih =>
    obtain ⟨l, hl, hp⟩ := ih (fun i hi => h i (by omega))
    obtain ⟨x, hx⟩ := h n (by omega)
    refine ⟨l ++ [x], by simp [hl], fun i y hy => ?_⟩
    rcases Nat.lt_or_ge i l.length with hi | hi
    · rw [List.getElem?_append_left hi] at hy
      exact hp i y hy
    · have : i = l.length := by
        have := (List.getElem?_eq_some_iff.1 hy).1
        simp at this; omega
      subst this
      rw [List.getElem?_append_right (Nat.le_refl _)] at hy
      simp at hy
      subst hy
      rw [hl]; exact hx

theorem open_steps {H : Type} {enc : TypeId × Value → H} {W : World} {r : Reach} {b0 : Nat} {v : Value} {d : DataW H} {p : List MemPlace} (hv : Value.okWide Try.prog W r b0 22 v) (h : DataW.Trod enc Try.prog W 0 (fun _ => true) true 22 v d p) :
    ∃ (A : Option Addr) (c : Nat) (l : List Sp), v = .slice A l.length c ∧ Ss W W.heap.size A l := by
  obtain ⟨A, len, c, rfl⟩ := okWide_slice Try.underlying22 hv
  obtain ⟨fuel, hf⟩ := h
  have c11 : Try.prog.cellsOf 35 = 11 := by kernel_rfl
  rcases open_slice Try.underlying22 hf with ⟨hcs, _⟩ | ⟨a, l, cap, m, n, D, Pl, hcs, _, hl, hm, hmm, _, hi⟩
  · simp [Value.cells] at hcs
    obtain ⟨rfl, rfl, rfl⟩ := hcs
    exact ⟨none, 0, [], rfl, .inl rfl⟩
  · simp [Value.cells] at hcs
    obtain ⟨rfl, rfl, rfl⟩ := hcs
    have hmc : m = c := by simpa using hmm
    subst hmc
    obtain ⟨L, hL, hP⟩ := list_of (P := fun i (x : Sp) => (W.cell? (a.add (i * 11)) = some (.int .i64 x.1.g) ∧ W.cell? (a.add (i * 11 + 1)) = some (.int .i64 x.1.x) ∧ W.cell? (a.add (i * 11 + 2)) = some (.int .i64 x.1.y) ∧ W.cell? (a.add (i * 11 + 3)) = some (.int .i64 x.1.u) ∧ W.cell? (a.add (i * 11 + 4)) = some (.int .i64 x.1.s) ∧ W.cell? (a.add (i * 11 + 5)) = some (.int .i64 x.1.k) ∧ W.cell? (a.add (i * 11 + 6)) = some (.int .i64 x.1.h) ∧ W.cell? (a.add (i * 11 + 7)) = some (.int .i64 x.1.n) ∧ W.cell? (a.add (i * 11 + 8)) = some (.string x.1.t) ∧ W.cell? (a.add (i * 11 + 9)) = some (.int .i64 x.1.q) ∧ W.cell? (a.add (i * 11 + 10)) = some (.slice x.2.1 x.1.xs.length x.2.2)) ∧ At.Sl W W.heap.size .i64 x.2.1 x.1.xs) len (fun i hi' => by
      obtain ⟨cs', h1, h2⟩ := hi i (by omega)
      rw [c11] at h1
      obtain ⟨_, hlen, hcell⟩ := World.cells?_some h1
      obtain ⟨c0, c1, c2, c3, c4, c5, c6, c7, c8, c9, c10, rfl⟩ := list11 hlen
      obtain ⟨k, A', c', e, hs⟩ := step_of h2
      simp only [List.cons.injEq, and_true] at e
      obtain ⟨rfl, rfl, rfl, rfl, rfl, rfl, rfl, rfl, rfl, rfl, rfl⟩ := e
      have e0 := hcell 0 (by omega)
      have e1 := hcell 1 (by omega)
      have e2 := hcell 2 (by omega)
      have e3 := hcell 3 (by omega)
      have e4 := hcell 4 (by omega)
      have e5 := hcell 5 (by omega)
      have e6 := hcell 6 (by omega)
      have e7 := hcell 7 (by omega)
      have e8 := hcell 8 (by omega)
      have e9 := hcell 9 (by omega)
      have e10 := hcell 10 (by omega)
      rw [add_add] at e0 e1 e2 e3 e4 e5 e6 e7 e8 e9 e10
      exact ⟨(k, A', c'), ⟨by simpa using e0, by simpa using e1, by simpa using e2, by simpa using e3, by simpa using e4, by simpa using e5, by simpa using e6, by simpa using e7, by simpa using e8, by simpa using e9, by simpa using e10⟩, hs⟩)
    subst hL
    refine ⟨some a, m, L, rfl, ?_⟩
    rcases Nat.eq_zero_or_pos L.length with h0 | h0
    · exact .inl (List.length_eq_zero_iff.1 h0)
    · obtain ⟨b, off, sp⟩ := a
      have hc := (hP 0 L[0] (List.getElem?_eq_getElem h0)).1.1
      have hsp : sp = none := by simpa [Addr.add] using World.cell?_spot hc
      subst hsp
      have hc0 : W.cell? ⟨b, off, none⟩ = some (.int .i64 L[0].1.g) := by simpa [Addr.add] using hc
      refine .inr ⟨b, off, rfl, World.block_lt_of_cell? W _ hc0, fun i x hx => ?_⟩
      obtain ⟨⟨q0, q1, q2, q3, q4, q5, q6, q7, q8, q9, q10⟩, hs⟩ := hP i x hx
      rw [Addr.add_lit] at q0 q1 q2 q3 q4 q5 q6 q7 q8 q9 q10
      exact ⟨⟨q0, by rw [Nat.add_assoc]; exact q1, by rw [Nat.add_assoc]; exact q2, by rw [Nat.add_assoc]; exact q3, by rw [Nat.add_assoc]; exact q4, by rw [Nat.add_assoc]; exact q5, by rw [Nat.add_assoc]; exact q6, by rw [Nat.add_assoc]; exact q7, by rw [Nat.add_assoc]; exact q8, by rw [Nat.add_assoc]; exact q9, by rw [Nat.add_assoc]; exact q10⟩, hs⟩

end Go.Proofs.Ytdeaaeejkpghaaa.In
