/-
  Words for memory: a slice that reads as what is known of instances. No program's function is walked here. No conditions.
-/
import Derived.Test.YtmeklhlojogdnaaDoorIxm
namespace Go.Proofs.YtmeklhlojogdnaaDoor
open Go.RowKit
set_option linter.unusedVariables false

/-- What is known of one, in nine cells from a place on. -/
def Nr (w : World) (b o : Nat) (k : Kn) : Prop :=
  w.cell? ⟨b, o, none⟩ = some (.int .i64 k.i.1) ∧ w.cell? ⟨b, o + 1, none⟩ = some (.int .i64 k.i.2) ∧ w.cell? ⟨b, o + 2, none⟩ = some (.int .i64 k.c.u) ∧ w.cell? ⟨b, o + 3, none⟩ = some (.int .i64 k.c.s) ∧ w.cell? ⟨b, o + 4, none⟩ = some (.int .i64 k.c.k) ∧
  w.cell? ⟨b, o + 5, none⟩ = some (.int .i64 k.c.h) ∧ w.cell? ⟨b, o + 6, none⟩ = some (.int .i64 k.c.n) ∧ w.cell? ⟨b, o + 7, none⟩ = some (.string k.c.t) ∧ w.cell? ⟨b, o + 8, none⟩ = some (.int .i64 k.q)
theorem Nr.of {w w' : World} {b o : Nat} {k : Kn} (h : Nr w b o k) (hb : w'.heap[b]? = w.heap[b]?) : Nr w' b o k := by
  have hc : ∀ j, w'.cell? ⟨b, j, none⟩ = w.cell? ⟨b, j, none⟩ := fun j => World.cell?_of_block hb
  obtain ⟨c0, c1, c2, c3, c4, c5, c6, c7, c8⟩ := h
  exact ⟨(hc _).trans c0, (hc _).trans c1, (hc _).trans c2, (hc _).trans c3, (hc _).trans c4, (hc _).trans c5, (hc _).trans c6, (hc _).trans c7, (hc _).trans c8⟩

/-- The slice at the address A reads as l, all of which lies below block B. -/
def Ns (w : World) (B : Nat) (A : Option Addr) (l : List Kn) : Prop :=
  l = [] ∨ ∃ b off, A = some ⟨b, off, none⟩ ∧ b < B ∧ ∀ j x, l[j]? = some x → Nr w b (off + j * 9) x
theorem Ns.nil {w : World} {B : Nat} {A : Option Addr} : Ns w B A [] := .inl rfl
theorem Ns.below {w w' : World} {B D : Nat} {A : Option Addr} {l : List Kn} (h : Ns w B A l) (hb : Below D w w') (hD : B ≤ D) : Ns w' B A l := by
  rcases h with rfl | ⟨b, off, hA, hlt, hc⟩
  · exact .inl rfl
  · exact .inr ⟨b, off, hA, hlt, fun j x hx => (hc j x hx).of (hb.block b (by omega))⟩
theorem Ns.mono {w : World} {B B' : Nat} {A : Option Addr} {l : List Kn} (h : Ns w B A l) (hB : B ≤ B') : Ns w B' A l := by
  rcases h with rfl | ⟨b, off, hA, hlt, hc⟩
  · exact .inl rfl
  · exact .inr ⟨b, off, hA, by omega, hc⟩
theorem Ns.up {w w' : World} {A : Option Addr} {l : List Kn} (h : Ns w w.heap.size A l) (hb : Below w.heap.size w w') : Ns w' w'.heap.size A l := (h.below hb (Nat.le_refl _)).mono hb.size
theorem Ns.off {w w' : World} {B : Nat} {A : Option Addr} {l : List Kn} {O : Nat → Prop} (h : Ns w B A l) (ho : Off O w w') (hB : B ≤ w.heap.size) (hA : ∀ b o, A = some ⟨b, o, none⟩ → ¬ O b) : Ns w' B A l := by
  rcases h with rfl | ⟨b, off, e, hlt, hc⟩
  · exact .inl rfl
  · exact .inr ⟨b, off, e, hlt, fun j x hx => (hc j x hx).of (ho.block b (by omega) (hA b off e))⟩

/-- The cells of what is known, one behind the other. -/
def ncs : List Kn → List Value
  | [] => []
  | k :: l => .int .i64 k.i.1 :: .int .i64 k.i.2 :: .int .i64 k.c.u :: .int .i64 k.c.s :: .int .i64 k.c.k :: .int .i64 k.c.h :: .int .i64 k.c.n :: .string k.c.t :: .int .i64 k.q :: ncs l
theorem ncs_len : ∀ l, (ncs l).length = l.length * 9
  | [] => rfl
  | x :: l => by simp only [ncs, List.length_cons, ncs_len l]; omega
theorem ncs_append : ∀ l m, ncs (l ++ m) = ncs l ++ ncs m
  | [], m => rfl
  | x :: l, m => by simp [ncs, ncs_append l m]
theorem ncs_one : ∀ l, ∀ u ∈ ncs l, u.oneCell' = true
  | [], u, h => by cases h
  | x :: l, u, h => by
    simp only [ncs, List.mem_cons] at h
    rcases h with rfl | rfl | rfl | rfl | rfl | rfl | rfl | rfl | rfl | h
    · rfl
    · rfl
    · rfl
    · rfl
    · rfl
    · rfl
    · rfl
    · rfl
    · rfl
    · exact ncs_one l u h
theorem ncs_read {w : World} {b : Nat} : ∀ (l : List Kn) (off : Nat) (hc : ∀ j x, l[j]? = some x → Nr w b (off + j * 9) x) (j : Nat) (u : Value), (ncs l)[j]? = some u → w.cell? ⟨b, off + j, none⟩ = some u
  | [], off, hc, j, u, h => by simp [ncs] at h
  | x :: l, off, hc, j, u, h => by
    obtain ⟨q0, q1, q2, q3, q4, q5, q6, q7, q8⟩ := hc 0 x rfl
    simp only [Nat.zero_mul, Nat.add_zero] at q0 q1 q2 q3 q4 q5 q6 q7 q8
    match j, h with
    | 0, h => simp [ncs] at h; subst h; exact q0
    | 1, h => simp [ncs] at h; subst h; exact q1
    | 2, h => simp [ncs] at h; subst h; exact q2
    | 3, h => simp [ncs] at h; subst h; exact q3
    | 4, h => simp [ncs] at h; subst h; exact q4
    | 5, h => simp [ncs] at h; subst h; exact q5
    | 6, h => simp [ncs] at h; subst h; exact q6
    | 7, h => simp [ncs] at h; subst h; exact q7
    | 8, h => simp [ncs] at h; subst h; exact q8
    | j + 9, h =>
      have h' : (ncs l)[j]? = some u := by simpa [ncs] using h
      have := ncs_read l (off + 9) (fun i y hy => by
        have := hc (i + 1) y (by simpa using hy)
        rw [show off + (i + 1) * 9 = off + 9 + i * 9 by omega] at this
        exact this) j u h'
      rw [show off + (j + 9) = off + 9 + j by omega]
      exact this
theorem ncs_at : ∀ (l : List Kn) (i : Nat) (x : Kn), l[i]? = some x → (ncs l)[i * 9]? = some (.int .i64 x.i.1) ∧ (ncs l)[i * 9 + 1]? = some (.int .i64 x.i.2) ∧ (ncs l)[i * 9 + 2]? = some (.int .i64 x.c.u) ∧ (ncs l)[i * 9 + 3]? = some (.int .i64 x.c.s) ∧ (ncs l)[i * 9 + 4]? = some (.int .i64 x.c.k) ∧ (ncs l)[i * 9 + 5]? = some (.int .i64 x.c.h) ∧ (ncs l)[i * 9 + 6]? = some (.int .i64 x.c.n) ∧ (ncs l)[i * 9 + 7]? = some (.string x.c.t) ∧ (ncs l)[i * 9 + 8]? = some (.int .i64 x.q)
  | [], i, x, h => by simp at h
  | y :: l, 0, x, h => by simp at h; subst h; exact ⟨rfl, rfl, rfl, rfl, rfl, rfl, rfl, rfl, rfl⟩
  | y :: l, i + 1, x, h => by
    rw [show (i + 1) * 9 = i * 9 + 9 by omega]
    exact ncs_at l i x (by simpa using h)
/-- A row of the call's own is a slice that reads as it. -/
theorem own_ns {w : World} {base : Nat} {v : Value} {l : List Kn} (h : w.ownsRow base 29 9 v l.length (ncs l)) : ∃ A c, v = .slice A l.length c ∧ Ns w w.heap.size A l ∧ ∀ b o, A = some ⟨b, o, none⟩ → base ≤ b := by
  rcases h.2 with ⟨rfl, h0⟩ | ⟨g, cap, cur, rfl, hg, hh, hnc, hcp, hcs, htake⟩
  · exact ⟨none, 0, by rw [h0], .inl (List.length_eq_zero_iff.1 h0), fun b o e => by cases e⟩
  · refine ⟨_, cap, rfl, .inr ⟨g, 0, rfl, (h.lt g rfl).2, fun i x hx => ?_⟩, fun b o e => by cases e; exact hg⟩
    have hc : ∀ j u, (ncs l)[j]? = some u → w.cell? ⟨g, 0 + j, none⟩ = some u := fun j u hu => by
      have := h.cells (g := g) rfl j u hu
      rwa [Addr.add_lit] at this
    obtain ⟨q0, q1, q2, q3, q4, q5, q6, q7, q8⟩ := ncs_at l i x hx
    exact ⟨hc _ _ q0, hc _ _ q1, hc _ _ q2, hc _ _ q3, hc _ _ q4, hc _ _ q5, hc _ _ q6, hc _ _ q7, hc _ _ q8⟩
theorem info29 : (Tryd.prog.info? 29).map (fun i => (i.zero, i.size, i.bytes)) = some (some (.agg #[.int .i64 0, .int .i64 0, .int .i64 0, .int .i64 0, .int .i64 0, .int .i64 0, .int .i64 0, .string ⟨#[]⟩, .int .i64 0]), 9, 80) := by kernel_rfl

/-- One more of a list. -/
theorem pq_step {N : Int} {l : List Kn} {c : Cd} {self : Int × Int} {p : Nat} (hp : p < l.length) (i : Int × Int) (q : Int) :
    Pq N (l.take (p + 1)) c self i q ↔ Pq N (l.take p) c self i q ∨ (mb l[p].i N = true ∧ l[p].i ≠ self ∧ itf l[p].c c = true ∧ i = l[p].i ∧ q = l[p].q) := by
  rw [List.take_succ_eq_append_getElem hp]
  constructor
  · rintro ⟨k, hk, h1, h2, h3, h4, h5⟩
    rcases List.mem_append.1 hk with hk | hk
    · exact .inl ⟨k, hk, h1, h2, h3, h4, h5⟩
    · simp at hk; subst hk; exact .inr ⟨h1, h2, h3, h4.symm, h5.symm⟩
  · rintro (⟨k, hk, h⟩ | ⟨h1, h2, h3, h4, h5⟩)
    · exact ⟨k, List.mem_append.2 (.inl hk), h⟩
    · exact ⟨l[p], List.mem_append.2 (.inr (by simp)), h1, h2, h3, h4.symm, h5.symm⟩

end Go.Proofs.YtmeklhlojogdnaaDoor
