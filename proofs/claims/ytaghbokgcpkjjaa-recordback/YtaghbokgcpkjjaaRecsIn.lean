/-
  How a slice of records that came in is read; 'l[i:i+1]' of it; the bytes of all its records. No conditions.
-/
import Derived.Test.YtaghbokgcpkjjaaSame
namespace Go.Proofs.Ytaghbokgcpkjjaa
open Go.RowKit Go.ChangeShapes Go.WideShapes Go.ChangeAt Go.Joins Go.Deep

theorem list_of {α : Type} {P : Nat → α → Prop} (n : Nat) (h : ∀ i, i < n → ∃ x, P i x) : ∃ l : List α, l.length = n ∧ ∀ i x, l[i]? = some x → P i x := by
  induction n with
  | zero => exact ⟨[], rfl, fun i x hx => by simp at hx⟩
  | succ n ih =>
    obtain ⟨l, hl, hp⟩ := ih (fun i hi => h i (by omega))
    obtain ⟨x, hx⟩ := h n (by omega)
    refine ⟨l ++ [x], by simp [hl], fun i y hy => ?_⟩
    rcases Nat.lt_or_ge i l.length with hi | hi
    · rw [List.getElem?_append_left hi] at hy
      exact hp i y hy
    · have : i = l.length := by
        have := (List.getElem?_eq_some_iff.1 hy).1
        simp at this; omega
      subst this
      rw [List.getElem?_append_right (Nat.le_refl _)] at hy
      simp at hy
      subst hy
      rw [hl]; exact hx

/-- A record's numbers fit their types. -/
def fitR (r : Int × List Int) : Prop := (-9223372036854775808 ≤ r.1 ∧ r.1 ≤ 9223372036854775807) ∧ ∀ n ∈ r.2, 0 ≤ n ∧ n ≤ 255

section
variable {H : Type} {enc : TypeId × Value → H} {W : World}
theorem open_recs {r : Reach} {b0 : Nat} {v : Value} {d : DataW H} {p : List MemPlace} (hv : Value.okWide Try.prog W r b0 32 v) (h : DataW.Trod enc Try.prog W 0 (fun _ => true) true 32 v d p) :
    ∃ (A : Option Addr) (c : Nat) (l : List (Int × List Int)), v = .slice A l.length c ∧ Rc W W.heap.size A l ∧ l.length ≤ c ∧ ∀ x ∈ l, fitR x := by
  obtain ⟨A, len, c, rfl⟩ := okWide_slice Try.underlying32 hv
  obtain ⟨fuel, hf⟩ := h
  rcases open_slice_pairs Try.underlying32 Try.underlying24 (by kernel_rfl) rfl rfl (by kernel_rfl) (by kernel_rfl) hf with ⟨hcs, _⟩ | ⟨a, l, cap, m, n, V0, V1, D0, D1, P0, P1, hcs, _, hl, hm, hmm, _, hi⟩
  · simp [Value.cells] at hcs
    obtain ⟨rfl, rfl, rfl⟩ := hcs
    exact ⟨none, 0, [], rfl, .inl rfl, Nat.le_refl _, fun x hx => by cases hx⟩
  · simp [Value.cells] at hcs
    obtain ⟨rfl, rfl, rfl⟩ := hcs
    have hmc : m = c := by simpa using hmm
    subst hmc
    obtain ⟨L, hL, hP⟩ := list_of (P := fun i (x : Int × List Int) => W.cell? (a.add (i * 2)) = some (.int .i64 x.1) ∧ (∃ A' c', W.cell? (a.add (i * 2 + 1)) = some (.slice A' x.2.length c') ∧ Sl W W.heap.size .u8 A' x.2) ∧ fitR x) len (fun i hi' => by
      obtain ⟨h0, h1, t0, t1⟩ := hi i (by omega)
      obtain ⟨k, hk, _, hw⟩ := DataW.trod_int Try.underlying3 t0
      obtain ⟨A', c', xs, hv1, hs, _, hb⟩ := open_body t1
      simp at hk
      exact ⟨(k, xs), by rw [h0, hk], ⟨A', c', by rw [h1, hv1], hs⟩, int_of hw, hb⟩)
    subst hL
    refine ⟨some a, m, L, rfl, ?_, hl, fun x hx => ?_⟩
    · rcases Nat.eq_zero_or_pos L.length with h0 | h0
      · exact .inl (List.length_eq_zero_iff.1 h0)
      · obtain ⟨b, off, sp⟩ := a
        have hc := (hP 0 L[0] (List.getElem?_eq_getElem h0)).1
        have hsp : sp = none := by simpa [Addr.add] using World.cell?_spot hc
        subst hsp
        have hc0 : W.cell? ⟨b, off, none⟩ = some (.int .i64 L[0].1) := by simpa [Addr.add] using hc
        refine .inr ⟨b, off, rfl, World.block_lt_of_cell? W _ hc0, fun i x hx => ?_⟩
        obtain ⟨q0, ⟨A', c', q1, q2⟩, _⟩ := hP i x hx
        rw [Addr.add_lit] at q0 q1
        exact ⟨q0, A', c', by rw [Nat.add_assoc]; exact q1, q2⟩
    · obtain ⟨i, hi'⟩ := List.mem_iff_getElem?.1 hx
      exact (hP i x hi').2.2
end

theorem elem_size32 (W : World) : (sizeOf (Try.prog.elem 32)).run Try.prog W = .ok 2 W := by
  have : Try.prog.elem 32 = 24 := by kernel_rfl
  rw [this]
  simp [go_sem]
theorem elem_under32 : Try.prog.underlying 32 = some (.slice (Try.prog.elem 32)) := by kernel_rfl

/-- What 'l[i:i+1]' is. -/
theorem one_run {w : World} {B : Nat} {A : Option Addr} {l : List (Int × List Int)} (h : Rc w B A l) (c i : Nat) (a b : Int) (ha : a = (i : Int)) (hb : b = (i : Int) + 1) (hi : i < l.length) (hc : l.length ≤ c) :
    ∃ A', (∀ W, (Instr.sliceAt 32 (.slice A l.length c) (some (.int .i64 a)) (some (.int .i64 b)) none).run Try.prog W = .ok (.slice A' 1 (c - i)) W) ∧
      (∀ W, (Instr.slice 32 (.slice A l.length c) (some (.int .i64 a)) (some (.int .i64 b)) none).run Try.prog W = .ok (.slice A' 1 (c - i)) W) ∧ Rc w B A' [l[i]] := by
  have hb' : b = ((i + 1 : Nat) : Int) := by omega
  subst ha hb'
  have h2 : ∀ W, (Instr.slice 32 (.slice A l.length c) (some (.int .i64 (i : Int))) (some (.int .i64 ((i + 1 : Nat) : Int))) none).run Try.prog W = .ok (.slice (if c = i then A else A.map (·.add (i * 2))) 1 (c - i)) W := fun W => by
    rw [run_slice_lh W 32 A l.length c elem_under32 .i64 .i64 i (i + 1 : Nat) (by omega) (by omega) (by omega), elem_size32]
    simp [sliced]
  refine ⟨_, fun W => by rw [run_sliceAt_slice W 32 _ _ _ _ elem_under32]; exact h2 W, h2, ?_⟩
  rw [if_neg (by omega)]
  rcases h with rfl | ⟨b, off, rfl, hb, hcell⟩
  · simp at hi
  · obtain ⟨q0, A', c', q1, q2⟩ := hcell i l[i] (List.getElem?_eq_getElem hi)
    refine .inr ⟨b, off + i * 2, by simp [Addr.add_lit], hb, fun j r hj => ?_⟩
    match j, hj with
    | 0, hj => simp at hj; subst hj; exact ⟨q0, A', c', q1, q2⟩

theorem rall_snoc (l : List (Int × List Int)) (k : Nat) (hk : k < l.length) : rall (l.take (k + 1)) = rall (l.take k) ++ rb (l[k]).1 (l[k]).2 := by
  rw [List.take_succ_eq_append_getElem hk]
  simp only [rall, List.flatMap_append, List.flatMap_cons, List.flatMap_nil, List.append_nil]

theorem rall_bd : ∀ (l : List (Int × List Int)), (∀ r ∈ l, okR r) → l.length ≤ (rall l).length ∧ (rall l).length ≤ l.length * 1033 := by
  intro l
  induction l with
  | nil => intro _; simp [rall]
  | cons r m ih =>
    intro h
    obtain ⟨_, h1, h2⟩ := h r (List.mem_cons_self ..)
    have q := rb_bd (k := r.1) (b := r.2) h1 h2
    have ih' := ih (fun x hx => h x (List.mem_cons_of_mem _ hx))
    have e : rall (r :: m) = rb r.1 r.2 ++ rall m := by simp [rall]
    rw [e, List.length_append, List.length_cons]
    omega

theorem rall_byte (l : List (Int × List Int)) (h : ∀ r ∈ l, fitR r) : ∀ x ∈ rall l, 0 ≤ x ∧ x ≤ 255 := by
  intro x hx
  simp only [rall, List.mem_flatMap] at hx
  obtain ⟨r, hr, hx⟩ := hx
  exact rb_byte (h r hr).2 x hx

end Go.Proofs.Ytaghbokgcpkjjaa
