/-
  A step in a box that is written to; plain facts of steps one behind the other. No program's function is walked here.
-/
import Derived.Test.YtdeaaeejkpghaaaDoorInMath
namespace Go.Proofs.YtdeaaeejkpghaaaDoor.In
open Go.RowKit
set_option linter.unusedVariables false
attribute [local go_sem ↓ high] Ba.eq23 Ba.guard23 Ba.neq23 Ba.guard23n eqc guardc

/-- A step in a box, as a block. -/
def Sx (w : World) (B : Nat) (p : Sd) (A : Option Addr) (c : Nat) : Prop := w.heap[B]? = some (.cells (scs p A c) 32 (0, 0))
theorem sx_new (w : World) (p : Sd) (A : Option Addr) (c : Nat) : Sx (w.alloc (.cells (scs p A c) 32)) w.heap.size p A c := heap_alloc_new w _
theorem Sx.sb {w : World} {B : Nat} {p : Sd} {A : Option Addr} {c : Nat} (h : Sx w B p A c) : Sb w B p A c := by
  refine ⟨?_, ?_, ?_, ?_, ?_, ?_, ?_, ?_, ?_, ?_, ?_⟩ <;> (rw [cell_of_row w B _ _ 32 _ h]; rfl)
theorem Sx.lt {w : World} {B : Nat} {p : Sd} {A : Option Addr} {c : Nat} (h : Sx w B p A c) : B < w.heap.size := lt_of_block h
theorem Sx.free {w : World} {B : Nat} {p : Sd} {A : Option Addr} {c : Nat} (h : Sx w B p A c) (i : Nat) : w.frozen? ⟨B, i, none⟩ = false := Lib.frozen_of_heap h i
theorem Sx.old {w : World} {B : Nat} {p : Sd} {A : Option Addr} {c : Nat} (h : Sx w B p A c) (o : Obj) : Sx (w.alloc o) B p A c := (heap_alloc_old w o h.lt).trans h
theorem Sx.on {w w' : World} {B D : Nat} {p : Sd} {A : Option Addr} {c : Nat} (h : Sx w B p A c) (hb : Below D w w') (hB : B < D) : Sx w' B p A c := (hb.block B hB).trans h
theorem Sx.bal {w : World} {B : Nat} {p : Sd} {A : Option Addr} {c : Nat} (h : Sx w B p A c) (x y : Int) : Sx ((w.setCell ⟨B, 1, none⟩ (.int .i64 x)).setCell ⟨B, 2, none⟩ (.int .i64 y)) B ⟨p.g, x, y, p.u, p.s, p.k, p.h, p.n, p.t, p.q, p.xs⟩ A c := by
  have h1 := heap_setCell_same w B 1 _ 32 (.int .i64 x) h
  have h2 := heap_setCell_same _ B 2 _ 32 (.int .i64 y) h1
  exact h2
theorem Sb.other {w : World} {B : Nat} {p : Sd} {A : Option Addr} {c : Nat} (h : Sb w B p A c) {q : Addr} (hne : B ≠ q.block) (v : Value) : Sb (w.setCell q v) B p A c := by
  have hh : (w.setCell q v).heap[B]? = w.heap[B]? := Below.heap_setCell w q v B hne
  unfold Sb at *
  simp only [World.cell?, hh] at *
  exact h
theorem fw_le {r : Rd} (h : fw r = true) : r.xs.length ≤ 50 := by
  simp [fw] at h
  omega

theorem ds_xs (r : Rd) (p : Sd) : (ds r p).xs = r.xs ∨ (ds r p).xs = p.xs := by
  unfold ds pm vt co
  repeat' split
  all_goals simp
theorem ds_le {r : Rd} {p : Sd} {n : Nat} (h : r.xs.length ≤ n) (k : p.xs.length ≤ n) : (ds r p).xs.length ≤ n := by
  rcases ds_xs r p with e | e <;> rw [e] <;> assumption
theorem no_stays {r : Rd} {p : Sd} (h0 : ¬ p.g < 1) (h2 : ¬ 2 < p.g) (hd : db r p = false) : ds r p = r := by
  have hg : p.g = 1 ∨ p.g = 2 := by omega
  rcases hg with hg | hg <;> simp [db, hg] at hd <;> simp [ds, hg, vt, hd]
theorem go_has {r : Rd} {p : Sd} (h0 : ¬ p.g < 1) (h2 : ¬ 2 < p.g) (hv : ¬ 0 < Ba.cm r.vn r.vb r.pn r.pb) (hd : db r p = true) :
    (ds r p).pn = p.x ∧ (ds r p).pb = p.y ∧ (ds r p).vn = p.x ∧ (ds r p).vb = p.y ∧ (ds r p).st = p.g ∧ gd p.x p.y = true := by
  have hg : p.g = 1 ∨ p.g = 2 := by omega
  rcases hg with hg | hg
  · simp [db, hg] at hd
    obtain ⟨a, b, c, d, e⟩ := vote_has (u := p.u) (s := p.s) (k := p.k) (h := p.h) (n := p.n) (t := p.t) (q := p.q) (xs := p.xs) hv hd
    simp [ds, hg, a, b, c, d, e, (rf_no hd).1]
  · simp [db, hg] at hd
    obtain ⟨a, b, c, d, e⟩ := vote_has (u := p.u) (s := p.s) (k := p.k) (h := p.h) (n := p.n) (t := p.t) (q := p.q) (xs := p.xs) hv hd
    simp [ds, hg, a, b, c, d, e, (rf_no hd).1]
theorem again {m : Rd} {p : Sd} (h0 : ¬ p.g < 1) (h2 : ¬ 2 < p.g) (a : m.pn = p.x) (b : m.pb = p.y) (c : m.vn = p.x) (d : m.vb = p.y) (e : m.st = p.g) (g : gd p.x p.y = true) : ds m p = m ∧ db m p = true := by
  have hg : p.g = 1 ∨ p.g = 2 := by omega
  rcases hg with hg | hg
  · simp [ds, db, hg, vt, vs, rf, a, b, c, d, e, g, Ba.cm_eq]
  · simp [ds, db, hg, vt, vs, rf, a, b, c, d, e, g, Ba.cm_eq]
theorem one_stays {m : Rd} {p o : Sd} (h0 : ¬ p.g < 1) (h2 : ¬ 2 < p.g) (c : m.vn = o.x) (d : m.vb = o.y) (e : m.st = p.g) (ho : o.g = 1) : ds m o = m := by
  have hg : p.g = 1 ∨ p.g = 2 := by omega
  rcases hg with hg | hg
  · simp [ds, ho, vt, vs, c, d, e, hg]
  · simp [ds, ho, vt, vs, rf, c, d, e, hg]

/-- What a step keeps. -/
def Ris (r x : Rd) : Prop :=
  ¬ Ba.cm x.pn x.pb r.pn r.pb < 0 ∧ ¬ Ba.cm x.vn x.vb r.vn r.vb < 0 ∧ ¬ 0 < Ba.cm x.vn x.vb x.pn x.pb ∧ (x.st < r.st → ¬ Ba.cm x.vn x.vb r.vn r.vb ≤ 0) ∧ ((r.st == 3) = true → x = r) ∧ x.st ≤ 3
theorem rises {r : Rd} {p : Sd} (hv : ¬ 0 < Ba.cm r.vn r.vb r.pn r.pb) (h3 : r.st ≤ 3) : Ris r (ds r p) := by
  have self : ds r p = r → Ris r (ds r p) := fun e => by
    rw [e]
    exact ⟨by rw [Ba.cm_eq]; omega, by rw [Ba.cm_eq]; omega, hv, fun h => by omega, fun _ => rfl, h3⟩
  have vote : ∀ st : Int, st = 1 ∨ st = 2 → ds r p = vt r st p.x p.y p.u p.s p.k p.h p.n p.t p.q p.xs → Ris r (ds r p) := fun st hst e => by
    rcases hr : rf r st p.x p.y with _ | _
    · rcases hs : vs r st p.x p.y with _ | _
      · obtain ⟨_, n3, hm⟩ := rf_no hr
        have e2 : ds r p = ⟨st, p.x, p.y, p.x, p.y, p.u, p.s, p.k, p.h, p.n, p.t, p.q, p.xs⟩ := by rw [e, vt, hr, hs]; rfl
        have n3' : ¬ r.st = 3 := by simpa using n3
        have hacc : st = 1 → r.st = 2 → ¬ (r.vn = p.x ∧ r.vb = p.y) := fun a b c => by
          rw [rf] at hr
          simp [a, b, c.1, c.2] at hr
        rw [e2]
        refine ⟨hm, ?_, by show ¬ 0 < Ba.cm p.x p.y p.x p.y; rw [Ba.cm_eq]; omega, fun h => ?_, fun h => (by rw [n3] at h; cases h), by show st ≤ 3; omega⟩
        · show ¬ Ba.cm p.x p.y r.vn r.vb < 0
          have t1 := Ba.cm_cases p.x p.y r.vn r.vb
          have t2 := Ba.cm_cases p.x p.y r.pn r.pb
          have t3 := Ba.cm_cases r.vn r.vb r.pn r.pb
          omega
        · have h : st < r.st := h
          show ¬ Ba.cm p.x p.y r.vn r.vb ≤ 0
          have hh := hacc (by omega) (by omega)
          have t1 := Ba.cm_cases p.x p.y r.vn r.vb
          have t2 := Ba.cm_cases p.x p.y r.pn r.pb
          have t3 := Ba.cm_cases r.vn r.vb r.pn r.pb
          omega
      · exact self (by rw [e, vt, hs]; rfl)
    · exact self (by rw [e, vt, hr]; simp)
  rcases h0 : (p.g == 0) with _ | _
  · rcases h1 : (p.g == 1) with _ | _
    · rcases h2 : (p.g == 2) with _ | _
      · have e : ds r p = co r p.u p.s p.k p.h p.n p.t p.q p.xs := by rw [ds, h0, h1, h2]; rfl
        rcases hc : (r.st == 3) with _ | _
        · have e2 : ds r p = ⟨3, r.pn, r.pb, r.vn, r.vb, p.u, p.s, p.k, p.h, p.n, p.t, p.q, p.xs⟩ := by rw [e, co, hc]; rfl
          rw [e2]
          refine ⟨?_, ?_, hv, fun h => ?_, fun h => (by rw [hc] at h; cases h), Int.le_refl _⟩
          · show ¬ Ba.cm r.pn r.pb r.pn r.pb < 0
            rw [Ba.cm_eq]; omega
          · show ¬ Ba.cm r.vn r.vb r.vn r.vb < 0
            rw [Ba.cm_eq]; omega
          · have h : (3 : Int) < r.st := h
            omega
        · exact self (by rw [e, co, hc]; rfl)
      · exact vote 2 (.inr rfl) (by rw [ds, h0, h1, h2]; rfl)
    · exact vote 1 (.inl rfl) (by rw [ds, h0, h1]; rfl)
  · have e : ds r p = pm r p.x p.y := by rw [ds, h0]; rfl
    rcases hr : rf r 0 p.x p.y with _ | _
    · obtain ⟨_, n3, hm⟩ := rf_no hr
      have e2 : ds r p = ⟨r.st, p.x, p.y, r.vn, r.vb, r.u, r.s, r.k, r.h, r.n, r.t, r.q, r.xs⟩ := by rw [e, pm, hr]; rfl
      rw [e2]
      refine ⟨hm, ?_, ?_, fun h => ?_, fun h => (by rw [n3] at h; cases h), h3⟩
      · show ¬ Ba.cm r.vn r.vb r.vn r.vb < 0
        rw [Ba.cm_eq]; omega
      · show ¬ 0 < Ba.cm r.vn r.vb p.x p.y
        have t1 := Ba.cm_cases r.vn r.vb p.x p.y
        have t2 := Ba.cm_cases p.x p.y r.pn r.pb
        have t3 := Ba.cm_cases r.vn r.vb r.pn r.pb
        omega
      · have h : r.st < r.st := h
        omega
    · exact self (by rw [e, pm, hr]; rfl)

end Go.Proofs.YtdeaaeejkpghaaaDoor.In
