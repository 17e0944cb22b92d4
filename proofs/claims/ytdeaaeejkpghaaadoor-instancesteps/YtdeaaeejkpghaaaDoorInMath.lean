/-
  Plain facts of steps: what is too late stays; who votes at a ballot has promised it. No program's function is walked here.
-/
import Derived.Test.YtdeaaeejkpghaaaDoorInAwk
namespace Go.Proofs.YtdeaaeejkpghaaaDoor.In
open Go.RowKit
set_option linter.unusedVariables false
attribute [local go_sem ↓ high] Ba.eq23 Ba.guard23 Ba.neq23 Ba.guard23n eqc guardc

theorem sa_self (a : Int) (xs : List Int) : At.sa a xs a xs = true := At.sa_iff.2 ⟨rfl, fun _ => rfl⟩
theorem sm_self (r : Rd) : sm r r = true := by simp [sm, ce, sa_self]
theorem rf_late {r : Rd} {st x y : Int} (h : Ba.cm x y r.pn r.pb < 0 ∨ (x = 0 ∧ y = 0) ∨ r.st = 3) : rf r st x y = true := by
  unfold rf
  rcases h with h | ⟨rfl, rfl⟩ | h
  · simp [h]
  · have : gd 0 0 = false := by decide
    simp [this]
  · simp [h]
theorem late_stays {r : Rd} {p : Sd} (h0 : 0 ≤ p.g) (h2 : p.g ≤ 2) (h : Ba.cm p.x p.y r.pn r.pb < 0 ∨ (p.x = 0 ∧ p.y = 0) ∨ r.st = 3) : db r p = false ∧ ds r p = r := by
  have e0 := rf_late (st := 0) h
  have e1 := rf_late (st := 1) h
  have e2 := rf_late (st := 2) h
  have hg : p.g = 0 ∨ p.g = 1 ∨ p.g = 2 := by omega
  rcases hg with hg | hg | hg <;> simp [db, ds, hg, e0, e1, e2, pm, vt]
theorem rf_no {r : Rd} {st x y : Int} (h : rf r st x y = false) : gd x y = true ∧ (r.st == 3) = false ∧ ¬ Ba.cm x y r.pn r.pb < 0 := by
  unfold rf at h
  simp only [Bool.or_eq_false_iff, Bool.not_eq_false', decide_eq_false_iff_not] at h
  exact ⟨h.1.1.1, h.1.1.2, h.1.2⟩
theorem cm_both {x y u v : Int} (h : ¬ Ba.cm x y u v < 0) (k : ¬ Ba.cm x y u v > 0) : x = u ∧ y = v := by
  rcases Ba.cm_cases x y u v with ⟨_, e⟩ | ⟨e, _⟩ | ⟨e, _⟩
  · exact e
  · omega
  · omega
theorem vote_has {r : Rd} {st x y u s k h n : Int} {t : ByteArray} {q : Int} {xs : List Int} (hv : ¬ Ba.cm r.vn r.vb r.pn r.pb > 0) (hr : rf r st x y = false) :
    (vt r st x y u s k h n t q xs).pn = x ∧ (vt r st x y u s k h n t q xs).pb = y ∧ (vt r st x y u s k h n t q xs).vn = x ∧ (vt r st x y u s k h n t q xs).vb = y ∧ (vt r st x y u s k h n t q xs).st = st := by
  obtain ⟨_, _, hm⟩ := rf_no hr
  unfold vt
  rw [hr]
  rcases hs : vs r st x y with _ | _
  · simp
  · simp [vs] at hs
    obtain ⟨h1, h2, h3⟩ := hs
    rw [h2, h3] at hv
    obtain ⟨e1, e2⟩ := cm_both hm hv
    simp [h1, h2, h3, e1, e2]
theorem late_else {r : Rd} {p : Sd} (h0 : 0 ≤ p.g) (h2 : p.g ≤ 2) (hv : ¬ Ba.cm r.vn r.vb r.pn r.pb > 0) (hd : db r p = true) : (((ds r p).pn == p.x) && ((ds r p).pb == p.y)) = true := by
  have hg : p.g = 0 ∨ p.g = 1 ∨ p.g = 2 := by omega
  rcases hg with hg | hg | hg
  · simp [db, hg] at hd
    simp [ds, hg, pm, hd]
  · simp [db, hg] at hd
    obtain ⟨a, b, _⟩ := vote_has (u := p.u) (s := p.s) (k := p.k) (h := p.h) (n := p.n) (t := p.t) (q := p.q) (xs := p.xs) hv hd
    simp [ds, hg, a, b]
  · simp [db, hg] at hd
    obtain ⟨a, b, _⟩ := vote_has (u := p.u) (s := p.s) (k := p.k) (h := p.h) (n := p.n) (t := p.t) (q := p.q) (xs := p.xs) hv hd
    simp [ds, hg, a, b]

end Go.Proofs.YtdeaaeejkpghaaaDoor.In
