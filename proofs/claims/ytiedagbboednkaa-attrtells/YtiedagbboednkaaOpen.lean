/-
  How an attribute, a slice of attributes and an instance that came in are read; the walk of the statements' own first step ('awake'). No conditions.
-/
import Derived.Test.YtiedagbboednkaaMg
import Derived.Test.YtiedagbboednkaaSa
import Derived.Lib.SmallJoins
import Derived.Deep.SlicePairs
import Derived.OpenShut
import Derived.ShutString
import Derived.ChangeOld
namespace Go.Proofs.Ytiedagbboednkaa
open Go.RowKit Go.ChangeShapes Go.WideShapes Go.ChangeAt Go.Joins Go.Deep

theorem int_of {n : Int} (h : (Lit.int .i64 n).wf = true) : -9223372036854775808 ≤ n ∧ n ≤ 9223372036854775807 := by
  have := bounds_i64 h
  omega

theorem list_of {α : Type} {P : Nat → α → Prop} (n : Nat) (h : ∀ i, i < n → ∃ x, P i x) : ∃ l : List α, l.length = n ∧ ∀ i x, l[i]? = some x → P i x := by
  induction n with
  | zero => exact ⟨[], rfl, fun i x hx => by simp at hx⟩
  | succ n ih =>
    obtain ⟨l, hl, hp⟩ := ih (fun i hi => h i (by omega))
    obtain ⟨x, hx⟩ := h n (by omega)
    refine ⟨l ++ [x], by simp [hl], fun i y hy => ?_⟩
    rcases Nat.lt_or_ge i l.length with hi | hi
    · rw [List.getElem?_append_left hi] at hy
      exact hp i y hy
    · have : i = l.length := by
        have := (List.getElem?_eq_some_iff.1 hy).1
        simp at this; omega
      subst this
      rw [List.getElem?_append_right (Nat.le_refl _)] at hy
      simp at hy
      subst hy
      rw [hl]; exact hx

section
variable {H : Type} {enc : TypeId × Value → H} {W : World}

theorem open_deps {fuel : Nat} {v : Value} {x : DataW H × List MemPlace} (h : DataW.trod enc Try.prog W 0 (fun _ => true) true fuel 22 [v] = some x) :
    ∃ (A : Option Addr) (c : Nat) (xs : List Int), v = .slice A xs.length c ∧ Sl W W.heap.size .i64 A xs := by
  rcases open_ints Try.underlying22 Try.underlying3 (by kernel_rfl) h with ⟨hcs, _⟩ | ⟨a, l, c, zs, hcs, _, hl, hm, hz, _, hcell, hwz⟩
  · simp at hcs
    subst hcs
    exact ⟨none, 0, [], rfl, Sl.nil⟩
  · simp at hcs
    subst hcs
    have hz' : zs.length = c := by simpa using hz
    have e : (zs.take l).length = l := by simp only [List.length_take]; omega
    exact ⟨some a, c, zs.take l, by rw [e], sl_of_cells hl hz' hcell⟩

theorem open_attr {r : Reach} {b0 : Nat} {v : Value} {d : DataW H} {p : List MemPlace} (hv : Value.okWide Try.prog W r b0 24 v) (h : DataW.Trod enc Try.prog W 0 (fun _ => true) true 24 v d p) :
    ∃ (k : Int) (A : Option Addr) (c : Nat) (xs : List Int), v = .agg #[.int .i64 k, .slice A xs.length c] ∧ Sl W W.heap.size .i64 A xs := by
  obtain ⟨v0, v1, y0, y1, n, rfl, _, _, h0, h1⟩ := open_agg2 Try.underlying24 (by kernel_rfl) (by kernel_rfl) hv h
  obtain ⟨k, hk, _, hw⟩ := DataW.trod_int Try.underlying3 h0
  obtain ⟨A, c, xs, rfl, hs⟩ := open_deps h1
  simp at hk
  subst hk
  exact ⟨k, A, c, xs, rfl, hs⟩

theorem open_inst {r : Reach} {b0 : Nat} {v : Value} {d : DataW H} {p : List MemPlace} (hv : Value.okWide Try.prog W r b0 26 v) (h : DataW.Trod enc Try.prog W 0 (fun _ => true) true 26 v d p) :
    ∃ x y : Int, v = .agg #[.int .i64 x, .int .i64 y] ∧ x ≤ 9223372036854775807 ∧ y ≤ 9223372036854775807 := by
  obtain ⟨v0, v1, y0, y1, n, rfl, _, _, h0, h1⟩ := open_agg2 Try.underlying26 (by kernel_rfl) (by kernel_rfl) hv h
  obtain ⟨k, hk, _, hw⟩ := DataW.trod_int Try.underlying3 h0
  obtain ⟨j, hj, _, hw'⟩ := DataW.trod_int Try.underlying3 h1
  simp at hk hj
  subst hk hj
  exact ⟨k, j, rfl, (int_of hw).2, (int_of hw').2⟩

theorem open_attrs {r : Reach} {b0 : Nat} {v : Value} {d : DataW H} {p : List MemPlace} (hv : Value.okWide Try.prog W r b0 33 v) (h : DataW.Trod enc Try.prog W 0 (fun _ => true) true 33 v d p) :
    ∃ (A : Option Addr) (c : Nat) (l : List (Int × List Int)), v = .slice A l.length c ∧ Rc W W.heap.size A l := by
  obtain ⟨A, len, c, rfl⟩ := okWide_slice Try.underlying33 hv
  obtain ⟨fuel, hf⟩ := h
  rcases open_slice_pairs Try.underlying33 Try.underlying24 (by kernel_rfl) rfl rfl (by kernel_rfl) (by kernel_rfl) hf with ⟨hcs, _⟩ | ⟨a, l, cap, m, n, V0, V1, D0, D1, P0, P1, hcs, _, hl, hm, hmm, _, hi⟩
  · simp [Value.cells] at hcs
    obtain ⟨rfl, rfl, rfl⟩ := hcs
    exact ⟨none, 0, [], rfl, .inl rfl⟩
  · simp [Value.cells] at hcs
    obtain ⟨rfl, rfl, rfl⟩ := hcs
    have hmc : m = c := by simpa using hmm
    subst hmc
    obtain ⟨L, hL, hP⟩ := list_of (P := fun i (x : Int × List Int) => W.cell? (a.add (i * 2)) = some (.int .i64 x.1) ∧ (∃ A' c', W.cell? (a.add (i * 2 + 1)) = some (.slice A' x.2.length c') ∧ Sl W W.heap.size .i64 A' x.2)) len (fun i hi' => by
      obtain ⟨h0, h1, t0, t1⟩ := hi i (by omega)
      obtain ⟨k, hk, _, hw⟩ := DataW.trod_int Try.underlying3 t0
      obtain ⟨A', c', xs, hv1, hs⟩ := open_deps t1
      simp at hk
      exact ⟨(k, xs), by rw [h0, hk], ⟨A', c', by rw [h1, hv1], hs⟩⟩)
    subst hL
    refine ⟨some a, m, L, rfl, ?_⟩
    rcases Nat.eq_zero_or_pos L.length with h0 | h0
    · exact .inl (List.length_eq_zero_iff.1 h0)
    · obtain ⟨b, off, sp⟩ := a
      have hc := (hP 0 L[0] (List.getElem?_eq_getElem h0)).1
      have hsp : sp = none := by simpa [Addr.add] using World.cell?_spot hc
      subst hsp
      have hc0 : W.cell? ⟨b, off, none⟩ = some (.int .i64 L[0].1) := by simpa [Addr.add] using hc
      refine .inr ⟨b, off, rfl, World.block_lt_of_cell? W _ hc0, fun i x hx => ?_⟩
      obtain ⟨q0, ⟨A', c', q1, q2⟩⟩ := hP i x hx
      rw [Addr.add_lit] at q0 q1
      exact ⟨q0, A', c', by rw [Nat.add_assoc]; exact q1, q2⟩
end

theorem ex_sq : sq [(2, [1, 0, 3]), (1, [0, 5])] = 2 := by decide
theorem ex_mg : mg [(2, [1, 0, 3]), (1, [0, 5])] = [1, 5, 3] := by decide

theorem awake_any (w : World) : Calls Try.prog 9 #[] w (UpPost w) := by
  have HM : ∀ (A : Option Addr) (c : Nat) (W : World), Rc W W.heap.size A [(2, [1, 0, 3]), (1, [0, 5])] → Hid (Calls Try.prog 19 #[.slice A 2 c] W (AtPost W 2 [1, 5, 3])) := fun A c W h => by
    have := merge_any A c [(2, [1, 0, 3]), (1, [0, 5])] W (by decide) (by decide) h
    rw [ex_sq, ex_mg] at this
    exact this
  have HW : ∀ (A : Option Addr) (c : Nat) (W : World), Sl W W.heap.size .i64 A [1, 5, 3] → Hid (Calls Try.prog 17 #[.agg #[.int .i64 2, .slice A 3 c], .agg #[.int .i64 2, .int .i64 4]] W (BoolPost W true)) := fun A c W h => waits_any 2 2 4 A c [1, 5, 3] W h (by decide)
  have E1 : Sl ((w.alloc (.cells #[.int .i64 1, .int .i64 0, .int .i64 3] 3)).alloc (.cells #[.int .i64 0, .int .i64 5] 3)) ((w.alloc (.cells #[.int .i64 1, .int .i64 0, .int .i64 3] 3)).alloc (.cells #[.int .i64 0, .int .i64 5] 3)).heap.size .i64 (some ⟨w.heap.size, 0, none⟩) [1, 0, 3] := .inr ⟨_, 0, rfl, by simp; omega, fun j x hx => by
    match j, hx with
    | 0, hx => simp at hx; subst hx; simp
    | 1, hx => simp at hx; subst hx; simp
    | 2, hx => simp at hx; subst hx; simp⟩
  have E2 : Sl ((w.alloc (.cells #[.int .i64 1, .int .i64 0, .int .i64 3] 3)).alloc (.cells #[.int .i64 0, .int .i64 5] 3)) ((w.alloc (.cells #[.int .i64 1, .int .i64 0, .int .i64 3] 3)).alloc (.cells #[.int .i64 0, .int .i64 5] 3)).heap.size .i64 (some ⟨w.heap.size + 1, 0, none⟩) [0, 5] := .inr ⟨_, 0, rfl, by simp, fun j x hx => by
    match j, hx with
    | 0, hx => simp at hx; subst hx; simp
    | 1, hx => simp at hx; subst hx; simp⟩
  have z2 : ((w.alloc (.cells #[.int .i64 1, .int .i64 0, .int .i64 3] 3)).alloc (.cells #[.int .i64 0, .int .i64 5] 3)).heap.size = w.heap.size + 1 + 1 := by simp
  have RC : Rc (((w.alloc (.cells #[.int .i64 1, .int .i64 0, .int .i64 3] 3)).alloc (.cells #[.int .i64 0, .int .i64 5] 3)).alloc (.cells #[.int .i64 2, .slice (some ⟨w.heap.size, 0, none⟩) 3 3, .int .i64 1, .slice (some ⟨w.heap.size + 1, 0, none⟩) 2 2] 24)) (((w.alloc (.cells #[.int .i64 1, .int .i64 0, .int .i64 3] 3)).alloc (.cells #[.int .i64 0, .int .i64 5] 3)).alloc (.cells #[.int .i64 2, .slice (some ⟨w.heap.size, 0, none⟩) 3 3, .int .i64 1, .slice (some ⟨w.heap.size + 1, 0, none⟩) 2 2] 24)).heap.size (some ⟨w.heap.size + 1 + 1, 0, none⟩) [(2, [1, 0, 3]), (1, [0, 5])] := by
    have := (rc_two (a := 2) (a' := 1) (c := 3) (c' := 2) E1 E2).mono (B' := (((w.alloc (.cells #[.int .i64 1, .int .i64 0, .int .i64 3] 3)).alloc (.cells #[.int .i64 0, .int .i64 5] 3)).alloc (.cells #[.int .i64 2, .slice (some ⟨w.heap.size, 0, none⟩) 3 3, .int .i64 1, .slice (some ⟨w.heap.size + 1, 0, none⟩) 2 2] 24)).heap.size) (by simp)
    rw [z2] at this
    exact this
  have BW : Below w.heap.size w (((w.alloc (.cells #[.int .i64 1, .int .i64 0, .int .i64 3] 3)).alloc (.cells #[.int .i64 0, .int .i64 5] 3)).alloc (.cells #[.int .i64 2, .slice (some ⟨w.heap.size, 0, none⟩) 3 3, .int .i64 1, .slice (some ⟨w.heap.size + 1, 0, none⟩) 2 2] 24)) := (((Below.refl _ _).alloc (Nat.le_refl _) _).alloc (by simp) _).alloc (by simp; omega) _
  have H1 := HM _ 2 _ RC
  clear RC HM E1 E2 z2
  go_enter Try.func9, Try.ntmps9
  go_wp2_with fail
  generalize (((w.alloc (.cells #[.int .i64 1, .int .i64 0, .int .i64 3] 3)).alloc (.cells #[.int .i64 0, .int .i64 5] 3)).alloc (.cells #[.int .i64 2, .slice (some ⟨w.heap.size, 0, none⟩) 3 3, .int .i64 1, .slice (some ⟨w.heap.size + 1, 0, none⟩) 2 2] 24)) = W0 at *
  refine H1.out.mono ?_
  rintro e w1 ⟨A, c, rfl, hs, B1⟩
  have BN : Below w1.heap.size w1 (w1.alloc (.cells #[.int .i64 2, .slice A 3 c] 24)) := (Below.refl _ _).alloc (Nat.le_refl _) _
  have BE := BW.trans ((B1.trans (BN.mono B1.size)).mono BW.size)
  have H2 := HW A c _ (hs.up BN)
  have RB := rb_new w1 2 A 3 c
  obtain ⟨b, off, rfl, hb, hc⟩ := (hs.up BN).at_ (j := 1) (by decide)
  have hc' : (w1.alloc (.cells #[.int .i64 2, .slice (some ⟨b, off, none⟩) 3 c] 24)).cell? ⟨b, off + 1, none⟩ = some (.int .i64 5) := hc
  clear hs hc HW H1 BN B1 BW
  obtain ⟨p0, p1⟩ := RB
  go_wp2_with fail
  generalize w1.alloc (.cells #[.int .i64 2, .slice (some ⟨b, off, none⟩) 3 c] 24) = W1 at *
  refine H2.out.mono ?_
  rintro e w2 ⟨rfl, B2⟩
  go_wp2
  go_ret
  exact ⟨rfl, BE.trans (B2.mono BE.size)⟩

end Go.Proofs.Ytiedagbboednkaa
