/-
  Words for AttrJoins: attributes laid one behind the other in a new block, told of the world in which that block lies; and what merged attributes are to each other. No conditions.
-/
import Derived.Test.YtiedagbboednkaaOpen
namespace Go.Proofs.Ytiedagbboednkaa
open Go.RowKit

/-- Two attributes that lie in a block of the world at hand. -/
theorem rc_two_at {V : World} {G : Nat} {a a' : Int} {A A' : Option Addr} {xs ys : List Int} {c c' : Nat} (h0 : V.cell? ⟨G, 0, none⟩ = some (.int .i64 a)) (h1 : V.cell? ⟨G, 1, none⟩ = some (.slice A xs.length c)) (h2 : V.cell? ⟨G, 2, none⟩ = some (.int .i64 a')) (h3 : V.cell? ⟨G, 3, none⟩ = some (.slice A' ys.length c'))
    (hx : Sl V V.heap.size .i64 A xs) (hy : Sl V V.heap.size .i64 A' ys) : Rc V V.heap.size (some ⟨G, 0, none⟩) [(a, xs), (a', ys)] := by
  refine .inr ⟨G, 0, rfl, World.block_lt_of_cell? V _ h0, fun i r hr => ?_⟩
  match i, hr with
  | 0, hr => simp at hr; subst hr; exact ⟨h0, A, c, h1, hx⟩
  | 1, hr => simp at hr; subst hr; exact ⟨h2, A', c', h3, hy⟩
theorem rc_four_at {V : World} {G : Nat} {a1 a2 a3 a4 : Int} {A1 A2 A3 A4 : Option Addr} {x1 x2 x3 x4 : List Int} {c1 c2 c3 c4 : Nat} (h0 : V.cell? ⟨G, 0, none⟩ = some (.int .i64 a1)) (h1 : V.cell? ⟨G, 1, none⟩ = some (.slice A1 x1.length c1)) (h2 : V.cell? ⟨G, 2, none⟩ = some (.int .i64 a2)) (h3 : V.cell? ⟨G, 3, none⟩ = some (.slice A2 x2.length c2))
    (h4 : V.cell? ⟨G, 4, none⟩ = some (.int .i64 a3)) (h5 : V.cell? ⟨G, 5, none⟩ = some (.slice A3 x3.length c3)) (h6 : V.cell? ⟨G, 6, none⟩ = some (.int .i64 a4)) (h7 : V.cell? ⟨G, 7, none⟩ = some (.slice A4 x4.length c4))
    (s1 : Sl V V.heap.size .i64 A1 x1) (s2 : Sl V V.heap.size .i64 A2 x2) (s3 : Sl V V.heap.size .i64 A3 x3) (s4 : Sl V V.heap.size .i64 A4 x4) : Rc V V.heap.size (some ⟨G, 0, none⟩) [(a1, x1), (a2, x2), (a3, x3), (a4, x4)] := by
  refine .inr ⟨G, 0, rfl, World.block_lt_of_cell? V _ h0, fun i r hr => ?_⟩
  match i, hr with
  | 0, hr => simp at hr; subst hr; exact ⟨h0, A1, c1, h1, s1⟩
  | 1, hr => simp at hr; subst hr; exact ⟨h2, A2, c2, h3, s2⟩
  | 2, hr => simp at hr; subst hr; exact ⟨h4, A3, c3, h5, s3⟩
  | 3, hr => simp at hr; subst hr; exact ⟨h6, A4, c4, h7, s4⟩
theorem Rc.up {w w' : World} {A : Option Addr} {l : List (Int × List Int)} (h : Rc w w.heap.size A l) (hb : Below w.heap.size w w') : Rc w' w'.heap.size A l := (h.below hb).mono hb.size

theorem Sl.up2 {w w' : World} {o : Obj} {k : IntKind} {A : Option Addr} {xs : List Int} (h : Sl w w.heap.size k A xs) (hb : Below (w.alloc o).heap.size (w.alloc o) w') : Sl w' w'.heap.size k A xs := (h.up ((Below.refl _ _).alloc (Nat.le_refl _) o)).up hb

section
variable {p q r : Int × List Int}
theorem sq2 : sq [p, q] = max (max 0 p.1) q.1 := rfl
theorem dm2 (i : Nat) : dm [p, q] i = max (max 0 (p.2.getD i 0)) (q.2.getD i 0) := rfl
theorem lg2 : lg [p, q] = max (max 0 p.2.length) q.2.length := rfl
theorem sa_comm2 : sa (sq [p, q]) (mg [p, q]) (sq [q, p]) (mg [q, p]) = true := sa_iff.2 ⟨by rw [sq2, sq2]; omega, fun i => by rw [mg_at, mg_at, dm2, dm2]; omega⟩
theorem sa_four : sa (sq [p, q]) (mg [p, q]) (sq [p, q, p, (sq [p, q], mg [p, q])]) (mg [p, q, p, (sq [p, q], mg [p, q])]) = true := by
  have e : ∀ m : Int × List Int, sq [p, q, p, m] = max (max (max (max 0 p.1) q.1) p.1) m.1 := fun _ => rfl
  have d : ∀ (m : Int × List Int) i, dm [p, q, p, m] i = max (max (max (max 0 (p.2.getD i 0)) (q.2.getD i 0)) (p.2.getD i 0)) (m.2.getD i 0) := fun _ _ => rfl
  refine sa_iff.2 ⟨?_, fun i => ?_⟩
  · rw [e, sq2]; simp only; omega
  · rw [mg_at, mg_at, d]; simp only; rw [mg_at, dm2]; omega
theorem sa_assoc : sa (sq [(sq [p, q], mg [p, q]), r]) (mg [(sq [p, q], mg [p, q]), r]) (sq [p, (sq [q, r], mg [q, r])]) (mg [p, (sq [q, r], mg [q, r])]) = true := by
  refine sa_iff.2 ⟨?_, fun i => ?_⟩
  · simp only [sq2]; omega
  · rw [mg_at, mg_at, dm2, dm2]; simp only; rw [mg_at, mg_at, dm2, dm2]; omega
theorem wi_left : wi p.1 p.2 (sq [p, q]) (mg [p, q]) = true := wi_iff.2 ⟨by rw [sq2]; omega, fun i => by rw [mg_at, dm2]; omega⟩
theorem wi_right : wi q.1 q.2 (sq [p, q]) (mg [p, q]) = true := wi_iff.2 ⟨by rw [sq2]; omega, fun i => by rw [mg_at, dm2]; omega⟩
theorem wi_least {n : Int} (hr : my r.1 r.2 n = true) (h1 : wi p.1 p.2 r.1 r.2 = true) (h2 : wi q.1 q.2 r.1 r.2 = true) : wi (sq [p, q]) (mg [p, q]) r.1 r.2 = true := by
  obtain ⟨a1, b1⟩ := wi_iff.1 h1
  obtain ⟨a2, b2⟩ := wi_iff.1 h2
  obtain ⟨_, _, _, _, c5, _⟩ := my_iff.1 hr
  refine wi_iff.2 ⟨by rw [sq2]; omega, fun i => ?_⟩
  rw [mg_at, dm2]
  have := b1 i
  have := b2 i
  have := (my_at hr i).1
  omega
theorem my_merge {n : Int} (hp : my p.1 p.2 n = true) (hq : my q.1 q.2 n = true) : my (sq [p, q]) (mg [p, q]) n = true := by
  obtain ⟨a1, a2, a3, _, a5, a6⟩ := my_iff.1 hp
  obtain ⟨_, _, b3, _, b5, b6⟩ := my_iff.1 hq
  refine my_yes a1 a2 (by rw [mg_len, lg2]; omega) (fun i _ => ?_) (by rw [sq2]; omega) (by rw [sq2]; omega)
  rw [mg_at, dm2]
  have := my_at hp i
  have := my_at hq i
  omega
end

end Go.Proofs.Ytiedagbboednkaa
