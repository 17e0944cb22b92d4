/-
  Plain facts: what may be known may be behind each step. No program's function is walked here.
-/
import Derived.Test.YtdeaaeejkpghaaaDoorInImay
import Derived.Test.YtdeaaeejkpghaaaDoorInMv
namespace Go.Proofs.YtdeaaeejkpghaaaDoor.In
open Go.RowKit
set_option linter.unusedVariables false
attribute [local go_sem ↓ high] Ba.eq23 Ba.guard23 Ba.neq23 Ba.guard23n eqc guardc

theorem sa_comm (a : Int) (xs : List Int) (b : Int) (ys : List Int) : At.sa a xs b ys = At.sa b ys a xs := by
  unfold At.sa
  exact Bool.and_comm _ _
theorem beq_comm' (a b : Int) : (a == b) = (b == a) := BEq.comm
theorem sm_comm (r o : Rd) : sm r o = sm o r := by
  unfold sm ce
  have ht : decide (r.t = o.t) = decide (o.t = r.t) := by simp [eq_comm]
  rw [beq_comm' r.st, beq_comm' r.pn, beq_comm' r.pb, beq_comm' r.vn, beq_comm' r.vb, beq_comm' r.u, beq_comm' r.s, beq_comm' r.k, beq_comm' r.h, beq_comm' r.n, ht, sa_comm r.q]
/-- The record that the law asks for a command and an attribute. -/
abbrev vo (p : Sd) : Rd := ⟨2, 0, 1, 0, 1, p.u, p.s, p.k, p.h, p.n, p.t, p.q, p.xs⟩
theorem vo_yes {p : Sd} {n : Int} (h : ym (vo p) n = true) : mayB p.u p.s p.k p.h p.n p.t.size = true ∧ At.my p.q p.xs n = true := by
  simp [ym] at h
  exact ⟨h.2.2.1, h.2.2.2⟩
theorem gd_my {x y : Int} (h : gd x y = true) : Ba.my x y = true := by
  unfold gd at h
  rw [Bool.and_eq_true] at h
  exact h.1
theorem ym_new {st x y : Int} {p : Sd} {n : Int} (hst : st = 1 ∨ st = 2) (g : gd x y = true) (h : ym (vo p) n = true) : ym ⟨st, x, y, x, y, p.u, p.s, p.k, p.h, p.n, p.t, p.q, p.xs⟩ n = true := by
  obtain ⟨a, b⟩ := vo_yes h
  rcases hst with rfl | rfl <;> simp [ym, gd_my g, g, Ba.cm_eq, a, b]
theorem may_stays {r : Rd} {p : Sd} {n : Int} (hr : ym r n = true) (hv : ym (vo p) n = true) : ym (ds r p) n = true := by
  have hr' := hr
  unfold ym at hr'
  simp only [Bool.and_eq_true, Bool.not_eq_true', decide_eq_false_iff_not] at hr'
  obtain ⟨⟨⟨k1, k2⟩, k3⟩, k4⟩ := hr'
  have vote : ∀ st : Int, st = 1 ∨ st = 2 → ym (vt r st p.x p.y p.u p.s p.k p.h p.n p.t p.q p.xs) n = true := fun st hst => by
    unfold vt
    split
    · exact hr
    · rename_i hh
      have hf : rf r st p.x p.y = false := by
        rcases e : rf r st p.x p.y with _ | _
        · rfl
        · simp [e] at hh
      exact ym_new hst (rf_no hf).1 hv
  rcases h0 : (p.g == 0) with _ | _
  · rcases h1 : (p.g == 1) with _ | _
    · rcases h2 : (p.g == 2) with _ | _
      · have e : ds r p = co r p.u p.s p.k p.h p.n p.t p.q p.xs := by rw [ds, h0, h1, h2]; rfl
        rw [e]
        unfold co
        split
        · exact hr
        · obtain ⟨a, b⟩ := vo_yes hv
          simp [ym, k1, k2, a, b]
          omega
      · have e : ds r p = vt r 2 p.x p.y p.u p.s p.k p.h p.n p.t p.q p.xs := by rw [ds, h0, h1, h2]; rfl
        rw [e]; exact vote 2 (.inr rfl)
    · have e : ds r p = vt r 1 p.x p.y p.u p.s p.k p.h p.n p.t p.q p.xs := by rw [ds, h0, h1]; rfl
      rw [e]; exact vote 1 (.inl rfl)
  · have e : ds r p = pm r p.x p.y := by rw [ds, h0]; rfl
    rw [e]
    unfold pm
    split
    · exact hr
    · rename_i hh
      have hf : rf r 0 p.x p.y = false := by
        rcases e : rf r 0 p.x p.y with _ | _
        · rfl
        · exact absurd e hh
      obtain ⟨g, _, hm⟩ := rf_no hf
      have t1 := Ba.cm_cases r.vn r.vb p.x p.y
      have t2 := Ba.cm_cases p.x p.y r.pn r.pb
      have t3 := Ba.cm_cases r.vn r.vb r.pn r.pb
      have k5 : ¬ 0 < Ba.cm r.vn r.vb p.x p.y := by omega
      unfold ym
      simp only [Bool.and_eq_true, Bool.not_eq_true', decide_eq_false_iff_not]
      exact ⟨⟨⟨gd_my g, k2⟩, k5⟩, k4⟩

end Go.Proofs.YtdeaaeejkpghaaaDoor.In
