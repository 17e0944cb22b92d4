/-
  How a ballot and a slice of ballots that came in are read; the walk of the statements' own first step ('awake'). No conditions.
-/
import Derived.Test.YtnlpfapfijckiaaCm
import Derived.Lib.SmallJoins
import Derived.Deep.SlicePairs
import Derived.OpenShut
import Derived.ShutString
import Derived.ChangeOld
namespace Go.Proofs.Ytnlpfapfijckiaa
open Go.RowKit Go.ChangeShapes Go.WideShapes Go.ChangeAt Go.Joins Go.Deep
attribute [local go_sem ↓ high] eq23 guard23 neq23 guard23n

theorem list_of {α : Type} {P : Nat → α → Prop} (n : Nat) (h : ∀ i, i < n → ∃ x, P i x) : ∃ l : List α, l.length = n ∧ ∀ i x, l[i]? = some x → P i x := by
  induction n with
  | zero => exact ⟨[], rfl, fun i x hx => by simp at hx⟩
  | succ n ih =>
    obtain ⟨l, hl, hp⟩ := ih (fun i hi => h i (by omega))
    obtain ⟨x, hx⟩ := h n (by omega)
    refine ⟨l ++ [x], by simp [hl], fun i y hy => ?_⟩
    rcases Nat.lt_or_ge i l.length with hi | hi
    · rw [List.getElem?_append_left hi] at hy
      exact hp i y hy
    · have : i = l.length := by
        have := (List.getElem?_eq_some_iff.1 hy).1
        simp at this; omega
      subst this
      rw [List.getElem?_append_right (Nat.le_refl _)] at hy
      simp at hy
      subst hy
      rw [hl]; exact hx

section
variable {H : Type} {enc : TypeId × Value → H} {W : World}

theorem open_bal {r : Reach} {b0 : Nat} {v : Value} {d : DataW H} {p : List MemPlace} (hv : Value.okWide Try.prog W r b0 23 v) (h : DataW.Trod enc Try.prog W 0 (fun _ => true) true 23 v d p) :
    ∃ x y : Int, v = .agg #[.int .i64 x, .int .i64 y] := by
  obtain ⟨v0, v1, y0, y1, n, rfl, _, _, h0, h1⟩ := open_agg2 Try.underlying23 (by kernel_rfl) (by kernel_rfl) hv h
  obtain ⟨k, hk, _, hw⟩ := DataW.trod_int Try.underlying3 h0
  obtain ⟨j, hj, _, hw'⟩ := DataW.trod_int Try.underlying3 h1
  simp at hk hj
  subst hk hj
  exact ⟨k, j, rfl⟩

theorem open_bals {r : Reach} {b0 : Nat} {v : Value} {d : DataW H} {p : List MemPlace} (hv : Value.okWide Try.prog W r b0 24 v) (h : DataW.Trod enc Try.prog W 0 (fun _ => true) true 24 v d p) :
    ∃ (A : Option Addr) (c : Nat) (l : List (Int × Int)), v = .slice A l.length c ∧ Bs W W.heap.size A l ∧ l.length ≤ c := by
  obtain ⟨A, len, c, rfl⟩ := okWide_slice Try.underlying24 hv
  obtain ⟨fuel, hf⟩ := h
  rcases open_slice_pairs Try.underlying24 Try.underlying23 (by kernel_rfl) rfl rfl (by kernel_rfl) (by kernel_rfl) hf with ⟨hcs, _⟩ | ⟨a, l, cap, m, n, V0, V1, D0, D1, P0, P1, hcs, _, hl, hm, hmm, _, hi⟩
  · simp [Value.cells] at hcs
    obtain ⟨rfl, rfl, rfl⟩ := hcs
    exact ⟨none, 0, [], rfl, .inl rfl, Nat.le_refl _⟩
  · simp [Value.cells] at hcs
    obtain ⟨rfl, rfl, rfl⟩ := hcs
    have hmc : m = c := by simpa using hmm
    subst hmc
    obtain ⟨L, hL, hP⟩ := list_of (P := fun i (x : Int × Int) => W.cell? (a.add (i * 2)) = some (.int .i64 x.1) ∧ W.cell? (a.add (i * 2 + 1)) = some (.int .i64 x.2)) len (fun i hi' => by
      obtain ⟨h0, h1, t0, t1⟩ := hi i (by omega)
      obtain ⟨k, hk, _, hw⟩ := DataW.trod_int Try.underlying3 t0
      obtain ⟨j, hj, _, hw'⟩ := DataW.trod_int Try.underlying3 t1
      simp at hk hj
      exact ⟨(k, j), by rw [h0, hk], by rw [h1, hj]⟩)
    subst hL
    refine ⟨some a, m, L, rfl, ?_, by omega⟩
    rcases Nat.eq_zero_or_pos L.length with h0 | h0
    · exact .inl (List.length_eq_zero_iff.1 h0)
    · obtain ⟨b, off, sp⟩ := a
      have hc := (hP 0 L[0] (List.getElem?_eq_getElem h0)).1
      have hsp : sp = none := by simpa [Addr.add] using World.cell?_spot hc
      subst hsp
      have hc0 : W.cell? ⟨b, off, none⟩ = some (.int .i64 L[0].1) := by simpa [Addr.add] using hc
      refine .inr ⟨b, off, rfl, World.block_lt_of_cell? W _ hc0, fun i x hx => ?_⟩
      obtain ⟨q0, q1⟩ := hP i x hx
      rw [Addr.add_lit] at q0 q1
      exact ⟨q0, by rw [Nat.add_assoc]; exact q1⟩
end

theorem ex_nx : nn 0 2 = 1 ∧ ny 0 2 = 2 ∧ nb 0 2 = true := nx_some (by omega)
theorem ex_cm : cm 1 3 1 2 = 1 := cm_one.2 (by omega)

theorem awake_any (w : World) : Calls Try.prog 8 #[] w (UpPost w) := by
  have H1 : Hid (Calls Try.prog 9 #[.agg #[.int .i64 0, .int .i64 7], .int .i64 2] w (NextPost w 1 2 true)) := by
    have := next_any 0 7 2 w
    rw [ex_nx.1, ex_nx.2.1, ex_nx.2.2] at this
    exact this
  have H2 : ∀ W, Hid (Calls Try.prog 13 #[.agg #[.int .i64 1, .int .i64 3], .agg #[.int .i64 1, .int .i64 2]] W (IntPost W 1)) := fun W => by
    have := cmp_any 1 3 1 2 W
    rw [ex_cm] at this
    exact this
  have H3 : ∀ W, Hid (Calls Try.prog 17 #[.int .i64 4] W (BalPost W 0 4)) := fun W => first_any 4 W
  have HF : ∀ W : World, (Instr.field 23 (.agg #[.int .i64 0, .int .i64 4]) 1).run Try.prog W = .ok (.int .i64 4) W := fun _ => by kernel_rfl
  go_enter Try.func8, Try.ntmps8
  go_wp2_with fail
  refine H1.out.mono ?_
  rintro e w1 ⟨rfl, B1⟩
  have X := bx_new w1 1 2
  have B2 := B1.trans ((one_below w1 1 2).mono B1.size)
  obtain ⟨p0, p1⟩ := id X.bb
  go_wp2_with fail
  clear p0 p1
  refine (H2 _).out.mono ?_
  rintro e w3 ⟨rfl, B3⟩
  have B4 := B2.trans (B3.mono B2.size)
  go_wp2_with fail
  refine (H3 _).out.mono ?_
  rintro e w4 ⟨rfl, B5⟩
  have B6 := B4.trans (B5.mono B4.size)
  go_wp2
  go_ret
  exact ⟨rfl, B6⟩

end Go.Proofs.Ytnlpfapfijckiaa
