/-
  The walk of Same: whether two records are the same. Conditions: at most 1000 deps.
-/
import Derived.Test.YtdeaaeejkpghaaaDoorInOwn
namespace Go.Proofs.YtdeaaeejkpghaaaDoor.In
open Go.RowKit
set_option linter.unusedVariables false
attribute [local go_sem ↓ high] Ba.eq23 Ba.guard23 Ba.neq23 Ba.guard23n eqc guardc

/-- Whether two commands are the same. -/
def ce (r o : Rd) : Bool := (r.u == o.u) && (r.s == o.s) && (r.k == o.k) && (r.h == o.h) && (r.n == o.n) && decide (r.t = o.t)
/-- Whether two records are the same. -/
def sm (r o : Rd) : Bool := (r.st == o.st) && ((r.pn == o.pn) && (r.pb == o.pb)) && ((r.vn == o.vn) && (r.vb == o.vb)) && ce r o && At.sa r.q r.xs o.q o.xs

set_option maxHeartbeats 1000000 in
theorem same_1 (r o : Rd) (A A' : Option Addr) (c c' : Nat) (w : World) (hs : At.Sl w w.heap.size .i64 A r.xs) (hs' : At.Sl w w.heap.size .i64 A' o.xs) (hl : r.xs.length ≤ 1000) (hl' : o.xs.length ≤ 1000) (h1 : (r.st == o.st) = false) : Calls Tryd.prog 13 #[rv r A c, rv o A' c'] w (BoolPost w false) := by
  have X0 : Rx ((w.alloc (.cells (rcs r A c) 30)).alloc (.cells (rcs o A' c') 30)) (w.heap.size) r A c := by
    have h0 := rx_new w r A c
    exact (h0.old _)
  have Y0 : Rx ((w.alloc (.cells (rcs r A c) 30)).alloc (.cells (rcs o A' c') 30)) (w.heap.size + 1) o A' c' := by
    have h0 := rx_new (w.alloc (.cells (rcs r A c) 30)) o A' c'
    rw [show (w.alloc (.cells (rcs r A c) 30)).heap.size = w.heap.size + 1 by simp] at h0
    exact h0
  have B0 : Below w.heap.size w ((w.alloc (.cells (rcs r A c) 30)).alloc (.cells (rcs o A' c') 30)) := (((Below.refl _ _).alloc (Nat.le_refl _) _).alloc (by first | (simp; done) | (simp; omega)) _)
  obtain ⟨p0, p1, p2, p3, p4, p5, p6, p7, p8, p9, p10, p11, p12⟩ := id X0.rb
  obtain ⟨q0, q1, q2, q3, q4, q5, q6, q7, q8, q9, q10, q11, q12⟩ := id Y0.rb
  go_enter Tryd.func13, Tryd.ntmps13
  go_wp2
  go_ret
  exact ⟨rfl, B0⟩

set_option maxHeartbeats 1000000 in
theorem same_2 (r o : Rd) (A A' : Option Addr) (c c' : Nat) (w : World) (hs : At.Sl w w.heap.size .i64 A r.xs) (hs' : At.Sl w w.heap.size .i64 A' o.xs) (hl : r.xs.length ≤ 1000) (hl' : o.xs.length ≤ 1000) (h1 : (r.st == o.st) = true) (h2 : ((r.pn == o.pn) && (r.pb == o.pb)) = false) : Calls Tryd.prog 13 #[rv r A c, rv o A' c'] w (BoolPost w false) := by
  have X0 : Rx ((w.alloc (.cells (rcs r A c) 30)).alloc (.cells (rcs o A' c') 30)) (w.heap.size) r A c := by
    have h0 := rx_new w r A c
    exact (h0.old _)
  have Y0 : Rx ((w.alloc (.cells (rcs r A c) 30)).alloc (.cells (rcs o A' c') 30)) (w.heap.size + 1) o A' c' := by
    have h0 := rx_new (w.alloc (.cells (rcs r A c) 30)) o A' c'
    rw [show (w.alloc (.cells (rcs r A c) 30)).heap.size = w.heap.size + 1 by simp] at h0
    exact h0
  have B0 : Below w.heap.size w ((w.alloc (.cells (rcs r A c) 30)).alloc (.cells (rcs o A' c') 30)) := (((Below.refl _ _).alloc (Nat.le_refl _) _).alloc (by first | (simp; done) | (simp; omega)) _)
  obtain ⟨p0, p1, p2, p3, p4, p5, p6, p7, p8, p9, p10, p11, p12⟩ := id X0.rb
  obtain ⟨q0, q1, q2, q3, q4, q5, q6, q7, q8, q9, q10, q11, q12⟩ := id Y0.rb
  go_enter Tryd.func13, Tryd.ntmps13
  go_wp2
  go_ret
  exact ⟨rfl, B0⟩

set_option maxHeartbeats 1000000 in
theorem same_3 (r o : Rd) (A A' : Option Addr) (c c' : Nat) (w : World) (hs : At.Sl w w.heap.size .i64 A r.xs) (hs' : At.Sl w w.heap.size .i64 A' o.xs) (hl : r.xs.length ≤ 1000) (hl' : o.xs.length ≤ 1000) (h1 : (r.st == o.st) = true) (h2 : ((r.pn == o.pn) && (r.pb == o.pb)) = true) (h3 : ((r.vn == o.vn) && (r.vb == o.vb)) = false) : Calls Tryd.prog 13 #[rv r A c, rv o A' c'] w (BoolPost w false) := by
  have X0 : Rx ((w.alloc (.cells (rcs r A c) 30)).alloc (.cells (rcs o A' c') 30)) (w.heap.size) r A c := by
    have h0 := rx_new w r A c
    exact (h0.old _)
  have Y0 : Rx ((w.alloc (.cells (rcs r A c) 30)).alloc (.cells (rcs o A' c') 30)) (w.heap.size + 1) o A' c' := by
    have h0 := rx_new (w.alloc (.cells (rcs r A c) 30)) o A' c'
    rw [show (w.alloc (.cells (rcs r A c) 30)).heap.size = w.heap.size + 1 by simp] at h0
    exact h0
  have B0 : Below w.heap.size w ((w.alloc (.cells (rcs r A c) 30)).alloc (.cells (rcs o A' c') 30)) := (((Below.refl _ _).alloc (Nat.le_refl _) _).alloc (by first | (simp; done) | (simp; omega)) _)
  obtain ⟨p0, p1, p2, p3, p4, p5, p6, p7, p8, p9, p10, p11, p12⟩ := id X0.rb
  obtain ⟨q0, q1, q2, q3, q4, q5, q6, q7, q8, q9, q10, q11, q12⟩ := id Y0.rb
  go_enter Tryd.func13, Tryd.ntmps13
  go_wp2
  go_ret
  exact ⟨rfl, B0⟩

set_option maxHeartbeats 1000000 in
theorem same_4 (r o : Rd) (A A' : Option Addr) (c c' : Nat) (w : World) (hs : At.Sl w w.heap.size .i64 A r.xs) (hs' : At.Sl w w.heap.size .i64 A' o.xs) (hl : r.xs.length ≤ 1000) (hl' : o.xs.length ≤ 1000) (h1 : (r.st == o.st) = true) (h2 : ((r.pn == o.pn) && (r.pb == o.pb)) = true) (h3 : ((r.vn == o.vn) && (r.vb == o.vb)) = true) (h4 : ((r.u == o.u) && (r.s == o.s) && (r.k == o.k) && (r.h == o.h) && (r.n == o.n) && decide (r.t = o.t)) = false) : Calls Tryd.prog 13 #[rv r A c, rv o A' c'] w (BoolPost w false) := by
  have X0 : Rx ((w.alloc (.cells (rcs r A c) 30)).alloc (.cells (rcs o A' c') 30)) (w.heap.size) r A c := by
    have h0 := rx_new w r A c
    exact (h0.old _)
  have Y0 : Rx ((w.alloc (.cells (rcs r A c) 30)).alloc (.cells (rcs o A' c') 30)) (w.heap.size + 1) o A' c' := by
    have h0 := rx_new (w.alloc (.cells (rcs r A c) 30)) o A' c'
    rw [show (w.alloc (.cells (rcs r A c) 30)).heap.size = w.heap.size + 1 by simp] at h0
    exact h0
  have B0 : Below w.heap.size w ((w.alloc (.cells (rcs r A c) 30)).alloc (.cells (rcs o A' c') 30)) := (((Below.refl _ _).alloc (Nat.le_refl _) _).alloc (by first | (simp; done) | (simp; omega)) _)
  obtain ⟨p0, p1, p2, p3, p4, p5, p6, p7, p8, p9, p10, p11, p12⟩ := id X0.rb
  obtain ⟨q0, q1, q2, q3, q4, q5, q6, q7, q8, q9, q10, q11, q12⟩ := id Y0.rb
  go_enter Tryd.func13, Tryd.ntmps13
  go_wp2
  go_ret
  exact ⟨rfl, B0⟩

set_option maxHeartbeats 1000000 in
theorem same_5 (r o : Rd) (A A' : Option Addr) (c c' : Nat) (w : World) (hs : At.Sl w w.heap.size .i64 A r.xs) (hs' : At.Sl w w.heap.size .i64 A' o.xs) (hl : r.xs.length ≤ 1000) (hl' : o.xs.length ≤ 1000) (h1 : (r.st == o.st) = true) (h2 : ((r.pn == o.pn) && (r.pb == o.pb)) = true) (h3 : ((r.vn == o.vn) && (r.vb == o.vb)) = true) (h4 : ((r.u == o.u) && (r.s == o.s) && (r.k == o.k) && (r.h == o.h) && (r.n == o.n) && decide (r.t = o.t)) = true) : Calls Tryd.prog 13 #[rv r A c, rv o A' c'] w (BoolPost w (At.sa r.q r.xs o.q o.xs)) := by
  have X0 : Rx ((w.alloc (.cells (rcs r A c) 30)).alloc (.cells (rcs o A' c') 30)) (w.heap.size) r A c := by
    have h0 := rx_new w r A c
    exact (h0.old _)
  have Y0 : Rx ((w.alloc (.cells (rcs r A c) 30)).alloc (.cells (rcs o A' c') 30)) (w.heap.size + 1) o A' c' := by
    have h0 := rx_new (w.alloc (.cells (rcs r A c) 30)) o A' c'
    rw [show (w.alloc (.cells (rcs r A c) 30)).heap.size = w.heap.size + 1 by simp] at h0
    exact h0
  have B0 : Below w.heap.size w ((w.alloc (.cells (rcs r A c) 30)).alloc (.cells (rcs o A' c') 30)) := (((Below.refl _ _).alloc (Nat.le_refl _) _).alloc (by first | (simp; done) | (simp; omega)) _)
  obtain ⟨p0, p1, p2, p3, p4, p5, p6, p7, p8, p9, p10, p11, p12⟩ := id X0.rb
  obtain ⟨q0, q1, q2, q3, q4, q5, q6, q7, q8, q9, q10, q11, q12⟩ := id Y0.rb
  have HA : ∀ W, At.Sl W W.heap.size .i64 A r.xs → At.Sl W W.heap.size .i64 A' o.xs → Hid (Calls Tryd.prog 34 #[.agg #[.int .i64 r.q, .slice A r.xs.length c], .agg #[.int .i64 o.q, .slice A' o.xs.length c']] W (At.BoolPost W (At.sa r.q r.xs o.q o.xs))) := fun W g g' => At.same_any r.q o.q A A' c c' r.xs o.xs W g g' hl hl'
  have S0 := hs.to B0 B0.size
  have S0' := hs'.to B0 B0.size
  generalize At.sa r.q r.xs o.q o.xs = L at *
  go_enter Tryd.func13, Tryd.ntmps13
  go_wp2_with fail
  refine (HA _ S0 S0').out.mono ?_
  rintro e w2 ⟨rfl, b2⟩
  have B2 := B0.trans (b2.mono B0.size)
  clear HA S0 S0' B0 X0 Y0
  go_wp2
  go_ret
  exact ⟨rfl, B2⟩

theorem same_any (r o : Rd) (A A' : Option Addr) (c c' : Nat) (w : World) (hs : At.Sl w w.heap.size .i64 A r.xs) (hs' : At.Sl w w.heap.size .i64 A' o.xs) (hl : r.xs.length ≤ 1000) (hl' : o.xs.length ≤ 1000) : Calls Tryd.prog 13 #[rv r A c, rv o A' c'] w (BoolPost w (sm r o)) := by
  rcases h1 : (r.st == o.st) with _ | _
  · have e : sm r o = false := by rw [sm, h1]; rfl
    rw [e]; exact same_1 r o A A' c c' w hs hs' hl hl' h1
  · rcases h2 : ((r.pn == o.pn) && (r.pb == o.pb)) with _ | _
    · have e : sm r o = false := by rw [sm, h1, h2]; rfl
      rw [e]; exact same_2 r o A A' c c' w hs hs' hl hl' h1 h2
    · rcases h3 : ((r.vn == o.vn) && (r.vb == o.vb)) with _ | _
      · have e : sm r o = false := by rw [sm, h1, h2, h3]; rfl
        rw [e]; exact same_3 r o A A' c c' w hs hs' hl hl' h1 h2 h3
      · rcases h4 : ce r o with _ | _
        · have e : sm r o = false := by rw [sm, h1, h2, h3, h4]; rfl
          rw [e]; exact same_4 r o A A' c c' w hs hs' hl hl' h1 h2 h3 h4
        · have e : sm r o = At.sa r.q r.xs o.q o.xs := by rw [sm, h1, h2, h3, h4]; rfl
          rw [e]; exact same_5 r o A A' c c' w hs hs' hl hl' h1 h2 h3 h4

end Go.Proofs.YtdeaaeejkpghaaaDoor.In
