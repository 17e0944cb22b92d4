/-
  The walks of among, Quorum, same, isFirst, with, and of the document's bound and Quorum. Conditions: at most 1000 deps.
-/
import Derived.Test.YtgmfjoegfbaebaaRgCn
import Derived.Deep.RegionHeld3
import Derived.Deep.QuietTactic
namespace Go.Proofs.Ytgmfjoegfbaebaa.Rg
open Go.RowKit In
set_option linter.unusedVariables false
attribute [local go_sem ↓ high] Ba.eq23 Ba.guard23 Ba.neq23 Ba.guard23n eqc guardc

theorem below_drewN {B : Nat} {a w : World} (h : Below B a w) (q : Nat) : Below B a (w.drewN q) := ⟨h.os, h.tape, h.output, h.size, h.block⟩
theorem among_any (n : Int) (w : World) : Calls Try.prog 19 #[.int .i64 n] w (IntP w (am n)) := by
  have e : ((am n : Nat) : Int) = min (max n 1) 7 := by
    unfold am
    split
    · omega
    · split <;> omega
  unfold IntP
  rw [e]
  clear e
  go_enter Try.func19, Try.ntmps19
  go_wp2
  go_ret
  exact ⟨rfl, Below.refl _ _⟩

theorem rbound_any (n : Int) (w : World) : Calls Try.prog 29 #[.int .i64 n] w (IntP w (am n)) := by
  unfold IntP am
  by_cases h1 : n < 1
  · rw [if_pos h1]
    go_enter Try.func29, Try.ntmps29
    go_wp2
    go_ret
    exact ⟨rfl, Below.refl _ _⟩
  · rw [if_neg h1]
    by_cases h7 : 7 < n
    · rw [if_pos h7]
      go_enter Try.func29, Try.ntmps29
      go_wp2
      go_ret
      exact ⟨rfl, Below.refl _ _⟩
    · rw [if_neg h7]
      have hn : ((n.toNat : Nat) : Int) = n := by omega
      rw [hn]
      go_enter Try.func29, Try.ntmps29
      go_wp2
      go_ret
      exact ⟨rfl, Below.refl _ _⟩

/-- How many are enough. -/
def qu (n : Nat) : Nat := n / 2 + 1
theorem Quorum_any (n : Int) (w : World) : Calls Try.prog 13 #[.int .i64 n] w (IntP w (qu (am n))) := by
  have H : Hid (Calls Try.prog 19 #[.int .i64 n] w (IntP w (am n))) := among_any n w
  have h1 := am_pos n
  have h7 := am_le n
  generalize am n = m at *
  have e : Hid (((qu m : Nat) : Int) = (m : Int) / 2 + 1) := by unfold qu; exact Lib.hid (by omega)
  generalize ((qu m : Nat) : Int) = z at *
  go_enter Try.func13, Try.ntmps13
  go_wp2_with fail
  refine H.out.mono ?_
  rintro e w1 ⟨rfl, b1⟩
  go_wp2
  go_ret
  exact ⟨by rw [e.out]; rfl, b1⟩
theorem rQuorum_any (n : Int) (w : World) : Calls Try.prog 14 #[.int .i64 n] w (IntP w (qu (am n))) := by
  have H : Hid (Calls Try.prog 29 #[.int .i64 n] w (IntP w (am n))) := rbound_any n w
  have h1 := am_pos n
  have h7 := am_le n
  generalize am n = m at *
  have e : Hid (((qu m : Nat) : Int) = (m : Int) / 2 + 1) := by unfold qu; exact Lib.hid (by omega)
  generalize ((qu m : Nat) : Int) = z at *
  go_enter Try.func14, Try.ntmps14
  go_wp2_with fail
  refine H.out.mono ?_
  rintro e w1 ⟨rfl, b1⟩
  go_wp2
  go_ret
  exact ⟨by rw [e.out]; rfl, b1⟩

set_option maxHeartbeats 1000000 in
theorem gsame_1 (a b : Rd) (A A' : Option Addr) (c c' : Nat) (w : World) (hs : At.Sl w w.heap.size .i64 A a.xs) (hs' : At.Sl w w.heap.size .i64 A' b.xs) (hl : a.xs.length ≤ 1000) (hl' : b.xs.length ≤ 1000) (h : ((a.u == b.u) && (a.s == b.s) && (a.k == b.k) && (a.h == b.h) && (a.n == b.n) && decide (a.t = b.t)) = false) : Calls Try.prog 38 #[rv a A c, rv b A' c'] w (BoolPost w false) := by
  have X0 : Rx ((w.alloc (.cells (rcs a A c) 42)).alloc (.cells (rcs b A' c') 42)) w.heap.size a A c := (rx_new w a A c).old _
  have Y0 : Rx ((w.alloc (.cells (rcs a A c) 42)).alloc (.cells (rcs b A' c') 42)) (w.heap.size + 1) b A' c' := by
    have h0 := rx_new (w.alloc (.cells (rcs a A c) 42)) b A' c'
    rw [show (w.alloc (.cells (rcs a A c) 42)).heap.size = w.heap.size + 1 by simp] at h0
    exact h0
  have B0 : Below w.heap.size w ((w.alloc (.cells (rcs a A c) 42)).alloc (.cells (rcs b A' c') 42)) := (((Below.refl _ _).alloc (Nat.le_refl _) _).alloc (by simp) _)
  obtain ⟨p0, p1, p2, p3, p4, p5, p6, p7, p8, p9, p10, p11, p12⟩ := id X0.rb
  obtain ⟨q0, q1, q2, q3, q4, q5, q6, q7, q8, q9, q10, q11, q12⟩ := id Y0.rb
  go_enter Try.func38, Try.ntmps38
  go_wp2
  go_ret
  exact ⟨rfl, B0⟩
set_option maxHeartbeats 1000000 in
theorem gsame_2 (a b : Rd) (A A' : Option Addr) (c c' : Nat) (w : World) (hs : At.Sl w w.heap.size .i64 A a.xs) (hs' : At.Sl w w.heap.size .i64 A' b.xs) (hl : a.xs.length ≤ 1000) (hl' : b.xs.length ≤ 1000) (h : ((a.u == b.u) && (a.s == b.s) && (a.k == b.k) && (a.h == b.h) && (a.n == b.n) && decide (a.t = b.t)) = true) : Calls Try.prog 38 #[rv a A c, rv b A' c'] w (BoolPost w (At.sa a.q a.xs b.q b.xs)) := by
  have X0 : Rx ((w.alloc (.cells (rcs a A c) 42)).alloc (.cells (rcs b A' c') 42)) w.heap.size a A c := (rx_new w a A c).old _
  have Y0 : Rx ((w.alloc (.cells (rcs a A c) 42)).alloc (.cells (rcs b A' c') 42)) (w.heap.size + 1) b A' c' := by
    have h0 := rx_new (w.alloc (.cells (rcs a A c) 42)) b A' c'
    rw [show (w.alloc (.cells (rcs a A c) 42)).heap.size = w.heap.size + 1 by simp] at h0
    exact h0
  have B0 : Below w.heap.size w ((w.alloc (.cells (rcs a A c) 42)).alloc (.cells (rcs b A' c') 42)) := (((Below.refl _ _).alloc (Nat.le_refl _) _).alloc (by simp) _)
  obtain ⟨p0, p1, p2, p3, p4, p5, p6, p7, p8, p9, p10, p11, p12⟩ := id X0.rb
  obtain ⟨q0, q1, q2, q3, q4, q5, q6, q7, q8, q9, q10, q11, q12⟩ := id Y0.rb
  have HA : ∀ W, At.Sl W W.heap.size .i64 A a.xs → At.Sl W W.heap.size .i64 A' b.xs → Hid (Calls Try.prog 46 #[.agg #[.int .i64 a.q, .slice A a.xs.length c], .agg #[.int .i64 b.q, .slice A' b.xs.length c']] W (At.BoolPost W (At.sa a.q a.xs b.q b.xs))) := fun W g g' => At.same_any a.q b.q A A' c c' a.xs b.xs W g g' hl hl'
  have S0 := hs.to B0 B0.size
  have S0' := hs'.to B0 B0.size
  generalize At.sa a.q a.xs b.q b.xs = L at *
  go_enter Try.func38, Try.ntmps38
  go_wp2_with fail
  refine (HA _ S0 S0').out.mono ?_
  rintro e w2 ⟨rfl, b2⟩
  have B2 := B0.trans (b2.mono B0.size)
  clear HA S0 S0' B0 X0 Y0
  go_wp2
  go_ret
  exact ⟨rfl, B2⟩
theorem gsame_any (a b : Rd) (A A' : Option Addr) (c c' : Nat) (w : World) (hs : At.Sl w w.heap.size .i64 A a.xs) (hs' : At.Sl w w.heap.size .i64 A' b.xs) (hl : a.xs.length ≤ 1000) (hl' : b.xs.length ≤ 1000) : Calls Try.prog 38 #[rv a A c, rv b A' c'] w (BoolPost w (sm a b)) := by
  rcases h : sc a b with _ | _
  · have e : sm a b = false := by rw [sm, h]; rfl
    rw [e]; exact gsame_1 a b A A' c c' w hs hs' hl hl' h
  · have e : sm a b = At.sa a.q a.xs b.q b.xs := by rw [sm, h]; rfl
    rw [e]; exact gsame_2 a b A A' c c' w hs hs' hl hl' h

set_option maxHeartbeats 1000000 in
theorem isFirst_1 (n : Nat) (o : Int) (L : Option Addr) (m d : Nat) (a : Rd) (A : Option Addr) (c : Nat) (w : World) (h : (a.st == 1) = false) : Calls Try.prog 37 #[hv n o L m d, rv a A c] w (BoolPost w false) := by
  have X0 : Hx ((w.alloc (.cells #[.int .i64 (n : Int), .int .i64 o, .slice L m d] 48)).alloc (.cells (rcs a A c) 42)) w.heap.size n o L m d := (hx_new w n o L m d).old _
  have Y0 : Rx ((w.alloc (.cells #[.int .i64 (n : Int), .int .i64 o, .slice L m d] 48)).alloc (.cells (rcs a A c) 42)) (w.heap.size + 1) a A c := by
    have h0 := rx_new (w.alloc (.cells #[.int .i64 (n : Int), .int .i64 o, .slice L m d] 48)) a A c
    rw [show (w.alloc (.cells #[.int .i64 (n : Int), .int .i64 o, .slice L m d] 48)).heap.size = w.heap.size + 1 by simp] at h0
    exact h0
  have B0 : Below w.heap.size w ((w.alloc (.cells #[.int .i64 (n : Int), .int .i64 o, .slice L m d] 48)).alloc (.cells (rcs a A c) 42)) := (((Below.refl _ _).alloc (Nat.le_refl _) _).alloc (by simp) _)
  obtain ⟨p0, p1, p2⟩ := X0.cells
  obtain ⟨q0, q1, q2, q3, q4, q5, q6, q7, q8, q9, q10, q11, q12⟩ := Y0.rb
  go_enter Try.func37, Try.ntmps37
  go_wp2
  go_quiet (fail)
  go_wp2
  go_ret
  exact ⟨rfl, below_drewN B0 _⟩
set_option maxHeartbeats 1000000 in
theorem isFirst_2 (n : Nat) (o : Int) (L : Option Addr) (m d : Nat) (a : Rd) (A : Option Addr) (c : Nat) (w : World) (h : (a.st == 1) = true) : Calls Try.prog 37 #[hv n o L m d, rv a A c] w (BoolPost w ((a.vn == 0) && (a.vb == o))) := by
  have X0 : Hx ((w.alloc (.cells #[.int .i64 (n : Int), .int .i64 o, .slice L m d] 48)).alloc (.cells (rcs a A c) 42)) w.heap.size n o L m d := (hx_new w n o L m d).old _
  have Y0 : Rx ((w.alloc (.cells #[.int .i64 (n : Int), .int .i64 o, .slice L m d] 48)).alloc (.cells (rcs a A c) 42)) (w.heap.size + 1) a A c := by
    have h0 := rx_new (w.alloc (.cells #[.int .i64 (n : Int), .int .i64 o, .slice L m d] 48)) a A c
    rw [show (w.alloc (.cells #[.int .i64 (n : Int), .int .i64 o, .slice L m d] 48)).heap.size = w.heap.size + 1 by simp] at h0
    exact h0
  have B0 : Below w.heap.size w ((w.alloc (.cells #[.int .i64 (n : Int), .int .i64 o, .slice L m d] 48)).alloc (.cells (rcs a A c) 42)) := (((Below.refl _ _).alloc (Nat.le_refl _) _).alloc (by simp) _)
  have HF : ∀ W, Hid (Calls Try.prog 45 #[.int .i64 o] W (Ba.BalPost W 0 o)) := fun W => Ba.first_any o W
  generalize hW : ((w.alloc (.cells #[.int .i64 (n : Int), .int .i64 o, .slice L m d] 48)).alloc (.cells (rcs a A c) 42)) = W0 at *
  have SB : Hid (∀ v, Below W0.heap.size W0 v → (v.cell? ⟨w.heap.size, 0, none⟩ = some (.int .i64 (n : Int)) ∧ v.cell? ⟨w.heap.size, 1, none⟩ = some (.int .i64 o) ∧ v.cell? ⟨w.heap.size, 2, none⟩ = some (.slice L m d)) ∧ (v.cell? ⟨w.heap.size + 1, 0, none⟩ = some (.int .i64 a.st) ∧ v.cell? ⟨w.heap.size + 1, 1, none⟩ = some (.int .i64 a.pn) ∧ v.cell? ⟨w.heap.size + 1, 2, none⟩ = some (.int .i64 a.pb) ∧ v.cell? ⟨w.heap.size + 1, 3, none⟩ = some (.int .i64 a.vn) ∧ v.cell? ⟨w.heap.size + 1, 4, none⟩ = some (.int .i64 a.vb) ∧ v.cell? ⟨w.heap.size + 1, 5, none⟩ = some (.int .i64 a.u) ∧ v.cell? ⟨w.heap.size + 1, 6, none⟩ = some (.int .i64 a.s) ∧ v.cell? ⟨w.heap.size + 1, 7, none⟩ = some (.int .i64 a.k) ∧ v.cell? ⟨w.heap.size + 1, 8, none⟩ = some (.int .i64 a.h) ∧ v.cell? ⟨w.heap.size + 1, 9, none⟩ = some (.int .i64 a.n) ∧ v.cell? ⟨w.heap.size + 1, 10, none⟩ = some (.string a.t) ∧ v.cell? ⟨w.heap.size + 1, 11, none⟩ = some (.int .i64 a.q) ∧ v.cell? ⟨w.heap.size + 1, 12, none⟩ = some (.slice A a.xs.length c))) := fun v g => ⟨(X0.on g X0.lt).cells, (Y0.on g Y0.lt).rb⟩
  have BD : Hid (Below W0.heap.size W0 W0.drew) := (Below.refl _ _).drew
  have HB := Lib.hid B0
  clear B0 X0 Y0
  subst hW
  go_enter Try.func37, Try.ntmps37
  go_wp2_with fail
  generalize hW : ((w.alloc (.cells #[.int .i64 (n : Int), .int .i64 o, .slice L m d] 48)).alloc (.cells (rcs a A c) 42)) = W0 at *
  clear hW
  refine wp_region_held_drew (S := fun v => Below W0.heap.size W0 v) (by kernel_rfl) BD.out (fun hH => ?_)
  refine wpAnyH_take (i := 0) (v := ?v1) rfl (by kernel_rfl) (by kernel_rfl) (by kernel_rfl) (fun _ _ _ h => h) (Or.inl ⟨by rfl, ?hy1⟩) hH ?rest1
  case hy1 => (intro w hSw; (try dsimp only at hSw); go_simp; try with_reducible rfl)
  try simp only [Act.put, List.setIfInBounds_toArray, List.set_cons_zero, List.set_cons_succ, List.getElem_toArray, List.getElem_cons_zero]
  refine wpAnyH_take (i := 1) (v := ?v2) rfl (by kernel_rfl) (by kernel_rfl) (by kernel_rfl) (fun _ _ _ h => h) (Or.inl ⟨by rfl, ?hy2⟩) hH ?rest2
  case hy2 => (intro w hSw; (try dsimp only at hSw); obtain ⟨⟨p0, p1, p2⟩, ⟨q0, q1, q2, q3, q4, q5, q6, q7, q8, q9, q10, q11, q12⟩⟩ := SB.out w hSw; go_simp; try with_reducible rfl)
  try simp only [Act.put, List.setIfInBounds_toArray, List.set_cons_zero, List.set_cons_succ, List.getElem_toArray, List.getElem_cons_zero, List.getElem_cons_succ]
  refine wpAnyH_take (i := 2) (v := ?v3) rfl (by kernel_rfl) (by kernel_rfl) (by kernel_rfl) (fun _ _ _ h => h) (Or.inl ⟨by rfl, ?hy3⟩) hH ?rest3
  case hy3 => (intro w hSw; (try dsimp only at hSw); go_simp; try with_reducible rfl)
  try simp only [Act.put, List.setIfInBounds_toArray, List.set_cons_zero, List.set_cons_succ, List.getElem_toArray, List.getElem_cons_zero, List.getElem_cons_succ]
  refine wpAnyH_take (i := 3) (v := ?v4) rfl (by kernel_rfl) (by kernel_rfl) (by kernel_rfl) (fun _ _ _ h => h) (Or.inl ⟨by rfl, ?hy4⟩) hH ?rest4
  case hy4 => (intro w hSw; (try dsimp only at hSw); go_simp; try with_reducible rfl)
  try simp only [Act.put, List.setIfInBounds_toArray, List.set_cons_zero, List.set_cons_succ, List.getElem_toArray, List.getElem_cons_zero, List.getElem_cons_succ]
  refine wpAnyH_take (i := 4) (v := ?v5) rfl (by kernel_rfl) (by kernel_rfl) (by kernel_rfl) (fun _ _ _ h => h) (Or.inl ⟨by rfl, ?hy5⟩) hH ?rest5
  case hy5 => (intro w hSw; (try dsimp only at hSw); go_simp; try with_reducible rfl)
  try simp only [Act.put, List.setIfInBounds_toArray, List.set_cons_zero, List.set_cons_succ, List.getElem_toArray, List.getElem_cons_zero, List.getElem_cons_succ]
  refine wpAnyH_take (i := 5) (v := ?v6) rfl (by kernel_rfl) (by kernel_rfl) (by kernel_rfl) (fun _ _ _ h => h) (Or.inl ⟨by rfl, ?hy6⟩) hH ?rest6
  case hy6 => (intro w hSw; (try dsimp only at hSw); obtain ⟨⟨p0, p1, p2⟩, ⟨q0, q1, q2, q3, q4, q5, q6, q7, q8, q9, q10, q11, q12⟩⟩ := SB.out w hSw; go_simp; try with_reducible rfl)
  try simp only [Act.put, List.setIfInBounds_toArray, List.set_cons_zero, List.set_cons_succ, List.getElem_toArray, List.getElem_cons_zero, List.getElem_cons_succ]
  refine wpAnyH_take (i := 6) (v := ?v7) rfl (by kernel_rfl) (by kernel_rfl) (by kernel_rfl) (fun _ _ _ h => h) (Or.inl ⟨by rfl, ?hy7⟩) hH ?rest7
  case hy7 => (intro w hSw; (try dsimp only at hSw); go_simp; try with_reducible rfl)
  try simp only [Act.put, List.setIfInBounds_toArray, List.set_cons_zero, List.set_cons_succ, List.getElem_toArray, List.getElem_cons_zero, List.getElem_cons_succ]
  refine wpAnyH_take (i := 7) (v := ?v8) rfl (by kernel_rfl) (by kernel_rfl) (by kernel_rfl) (fun _ _ _ h => h) (Or.inl ⟨by rfl, ?hy8⟩) hH ?rest8
  case hy8 => (intro w hSw; (try dsimp only at hSw); obtain ⟨⟨p0, p1, p2⟩, ⟨q0, q1, q2, q3, q4, q5, q6, q7, q8, q9, q10, q11, q12⟩⟩ := SB.out w hSw; go_simp; try with_reducible rfl)
  try simp only [Act.put, List.setIfInBounds_toArray, List.set_cons_zero, List.set_cons_succ, List.getElem_toArray, List.getElem_cons_zero, List.getElem_cons_succ]
  refine wpAnyH_ready (rs := [8]) (by kernel_rfl) (by simp) ?_
  refine AllReadyH.cons rfl (fun K hK => ?_) AllReadyH.nil
  go_simp
  go_at_call 45
  with_reducible refine (HF _).out.mono ?_
  rintro e wq9 ⟨rfl, bq9⟩
  go_wp2_with fail
  refine hK.out _ _ (hH.trans (bq9.mono hH.size)) (fun hH2 => ?_)
  clear hK K hH
  have hH := hH2
  clear hH2
  try simp only [Act.put, List.setIfInBounds_toArray, List.set_cons_zero, List.set_cons_succ, List.getElem_toArray, List.getElem_cons_zero, List.getElem_cons_succ]
  refine wpAnyH_take (i := 9) (v := ?v10) rfl (by kernel_rfl) (by kernel_rfl) (by kernel_rfl) (fun _ _ _ h => h) (Or.inl ⟨by rfl, ?hy10⟩) hH ?rest10
  case hy10 => (intro w hSw; (try dsimp only at hSw); go_simp; try with_reducible rfl)
  try simp only [Act.put, List.setIfInBounds_toArray, List.set_cons_zero, List.set_cons_succ, List.getElem_toArray, List.getElem_cons_zero, List.getElem_cons_succ]
  refine wpAnyH_take (i := 10) (v := ?v11) rfl (by kernel_rfl) (by kernel_rfl) (by kernel_rfl) (fun _ _ _ h => h) (Or.inl ⟨by rfl, ?hy11⟩) hH ?rest11
  case hy11 => (intro w hSw; (try dsimp only at hSw); go_simp; try with_reducible rfl)
  try simp only [Act.put, List.setIfInBounds_toArray, List.set_cons_zero, List.set_cons_succ, List.getElem_toArray, List.getElem_cons_zero, List.getElem_cons_succ]
  refine wpAnyH_take (i := 11) (v := ?v12) rfl (by kernel_rfl) (by kernel_rfl) (by kernel_rfl) (fun _ _ _ h => h) (Or.inl ⟨by rfl, ?hy12⟩) hH ?rest12
  case hy12 => (intro w hSw; (try dsimp only at hSw); go_simp; try with_reducible rfl)
  try simp only [Act.put, List.setIfInBounds_toArray, List.set_cons_zero, List.set_cons_succ, List.getElem_toArray, List.getElem_cons_zero, List.getElem_cons_succ]
  refine wpAnyH_done (by kernel_rfl) ?_ _
  go_wp2
  go_ret
  exact ⟨rfl, HB.out.trans (hH.mono HB.out.size)⟩
theorem isFirst_any (n : Nat) (o : Int) (L : Option Addr) (m d : Nat) (a : Rd) (A : Option Addr) (c : Nat) (w : World) : Calls Try.prog 37 #[hv n o L m d, rv a A c] w (BoolPost w (fi o a)) := by
  rcases h : (a.st == 1) with _ | _
  · have e : fi o a = false := by rw [fi, h]; rfl
    rw [e]; exact isFirst_1 n o L m d a A c w h
  · have e : fi o a = ((a.vn == 0) && (a.vb == o)) := by rw [fi, h]; rfl
    rw [e]; exact isFirst_2 n o L m d a A c w h

theorem run_with {V : World} {tm : Array Value} {B : Nat} {x : Ch} {A : Option Addr} {c : Nat} (h2 : tm[4]?.getD undef = .pointer (some ⟨B, 0, none⟩)) (hb : Cx V B x A c) :
    (results Try.f34 tm).run Try.prog V = .ok (chv x A c) V := by
  obtain ⟨c0, c1, c2, c3, c4, c5, c6, c7, c8⟩ := hb.cc
  simp [results, Try.f34, go_sem, h2, c0, c1, c2, c3, c4, c5, c6, c7, c8]
set_option maxHeartbeats 1000000 in
theorem with_any (k : Int) (a : Rd) (A : Option Addr) (c : Nat) (w : World) (hs : At.Sl w w.heap.size .i64 A a.xs) (hl : a.xs.length ≤ 1000) : Calls Try.prog 34 #[.int .i64 k, rv a A c] w (ChP w (cw k a)) := by
  have HF : ∀ W, At.Sl W W.heap.size .i64 A a.xs → Hid (Calls Try.prog 43 #[.slice A a.xs.length c] W (fun e w' => ∃ A' c', e = .returned (.slice A' a.xs.length c') ∧ Fr W.heap.size w' A' a.xs ∧ Below W.heap.size W w')) := fun W g => clone_any A c a.xs W g hl
  have X0 : Rx ((w.alloc (.cells (rcs a A c) 42)).alloc (.cells #[.int .i64 0, .int .i64 0, .int .i64 0, .int .i64 0, .int .i64 0, .int .i64 0, .string ⟨#[]⟩, .int .i64 0, .slice none 0 0] 32)) w.heap.size a A c := (rx_new w a A c).old _
  have ZA : Hid (Cx ((w.alloc (.cells (rcs a A c) 42)).alloc (.cells #[.int .i64 0, .int .i64 0, .int .i64 0, .int .i64 0, .int .i64 0, .int .i64 0, .string ⟨#[]⟩, .int .i64 0, .slice none 0 0] 32)) (w.heap.size + 1) c0 none 0) := by
    have h0 := cx_zero (w.alloc (.cells (rcs a A c) 42))
    rw [show (w.alloc (.cells (rcs a A c) 42)).heap.size = w.heap.size + 1 by simp] at h0
    exact h0
  have B0 : Below w.heap.size w ((w.alloc (.cells (rcs a A c) 42)).alloc (.cells #[.int .i64 0, .int .i64 0, .int .i64 0, .int .i64 0, .int .i64 0, .int .i64 0, .string ⟨#[]⟩, .int .i64 0, .slice none 0 0] 32)) := (((Below.refl _ _).alloc (Nat.le_refl _) _).alloc (by simp) _)
  have sz : ((w.alloc (.cells (rcs a A c) 42)).alloc (.cells #[.int .i64 0, .int .i64 0, .int .i64 0, .int .i64 0, .int .i64 0, .int .i64 0, .string ⟨#[]⟩, .int .i64 0, .slice none 0 0] 32)).heap.size = w.heap.size + 1 + 1 := by simp
  generalize hW : ((w.alloc (.cells (rcs a A c) 42)).alloc (.cells #[.int .i64 0, .int .i64 0, .int .i64 0, .int .i64 0, .int .i64 0, .int .i64 0, .string ⟨#[]⟩, .int .i64 0, .slice none 0 0] 32)) = W0 at *
  have SB : Hid (∀ v, Below (w.heap.size + 1) W0 v → v.cell? ⟨w.heap.size, 0, none⟩ = some (.int .i64 a.st) ∧ v.cell? ⟨w.heap.size, 1, none⟩ = some (.int .i64 a.pn) ∧ v.cell? ⟨w.heap.size, 2, none⟩ = some (.int .i64 a.pb) ∧ v.cell? ⟨w.heap.size, 3, none⟩ = some (.int .i64 a.vn) ∧ v.cell? ⟨w.heap.size, 4, none⟩ = some (.int .i64 a.vb) ∧ v.cell? ⟨w.heap.size, 5, none⟩ = some (.int .i64 a.u) ∧ v.cell? ⟨w.heap.size, 6, none⟩ = some (.int .i64 a.s) ∧ v.cell? ⟨w.heap.size, 7, none⟩ = some (.int .i64 a.k) ∧ v.cell? ⟨w.heap.size, 8, none⟩ = some (.int .i64 a.h) ∧ v.cell? ⟨w.heap.size, 9, none⟩ = some (.int .i64 a.n) ∧ v.cell? ⟨w.heap.size, 10, none⟩ = some (.string a.t) ∧ v.cell? ⟨w.heap.size, 11, none⟩ = some (.int .i64 a.q) ∧ v.cell? ⟨w.heap.size, 12, none⟩ = some (.slice A a.xs.length c)) := fun v g => (X0.on g (Nat.lt_succ_self _)).rb
  have BD : Hid (Below (w.heap.size + 1) W0 W0.drew) := (Below.refl _ _).drew
  have HB := Lib.hid B0
  have S9 : Hid (At.Sl W0.drew W0.drew.heap.size .i64 A a.xs) := hs.to B0.drew B0.drew.size
  have SZ := Lib.hid sz
  clear B0 X0 sz hs
  subst hW
  go_enter Try.func34, Try.ntmps34
  go_wp2_with fail
  generalize hW : ((w.alloc (.cells (rcs a A c) 42)).alloc (.cells #[.int .i64 0, .int .i64 0, .int .i64 0, .int .i64 0, .int .i64 0, .int .i64 0, .string ⟨#[]⟩, .int .i64 0, .slice none 0 0] 32)) = W0 at *
  clear hW
  refine wp_region_held_drew (S := fun v => Below (w.heap.size + 1) W0 v) (by kernel_rfl) BD.out (fun hH => ?_)
  refine wpAnyH_take (i := 0) (v := ?v13) rfl (by kernel_rfl) (by kernel_rfl) (by kernel_rfl) (fun _ _ _ h => h) (Or.inl ⟨by rfl, ?hy13⟩) hH ?rest13
  case hy13 => (intro w hSw; (try dsimp only at hSw); go_simp; try with_reducible rfl)
  try simp only [Act.put, List.setIfInBounds_toArray, List.set_cons_zero, List.set_cons_succ, List.getElem_toArray, List.getElem_cons_zero]
  refine wpAnyH_take (i := 1) (v := ?v14) rfl (by kernel_rfl) (by kernel_rfl) (by kernel_rfl) (fun _ _ _ h => h) (Or.inl ⟨by rfl, ?hy14⟩) hH ?rest14
  case hy14 => (intro w hSw; (try dsimp only at hSw); go_simp; try with_reducible rfl)
  try simp only [Act.put, List.setIfInBounds_toArray, List.set_cons_zero, List.set_cons_succ, List.getElem_toArray, List.getElem_cons_zero, List.getElem_cons_succ]
  refine wpAnyH_take (i := 2) (v := ?v15) rfl (by kernel_rfl) (by kernel_rfl) (by kernel_rfl) (fun _ _ _ h => h) (Or.inl ⟨by rfl, ?hy15⟩) hH ?rest15
  case hy15 => (intro w hSw; (try dsimp only at hSw); obtain ⟨q0, q1, q2, q3, q4, q5, q6, q7, q8, q9, q10, q11, q12⟩ := SB.out w hSw; go_simp; try with_reducible rfl)
  try simp only [Act.put, List.setIfInBounds_toArray, List.set_cons_zero, List.set_cons_succ, List.getElem_toArray, List.getElem_cons_zero, List.getElem_cons_succ]
  refine wpAnyH_take (i := 3) (v := ?v16) rfl (by kernel_rfl) (by kernel_rfl) (by kernel_rfl) (fun _ _ _ h => h) (Or.inl ⟨by rfl, ?hy16⟩) hH ?rest16
  case hy16 => (intro w hSw; (try dsimp only at hSw); go_simp; try with_reducible rfl)
  try simp only [Act.put, List.setIfInBounds_toArray, List.set_cons_zero, List.set_cons_succ, List.getElem_toArray, List.getElem_cons_zero, List.getElem_cons_succ]
  refine wpAnyH_take (i := 4) (v := ?v17) rfl (by kernel_rfl) (by kernel_rfl) (by kernel_rfl) (fun _ _ _ h => h) (Or.inl ⟨by rfl, ?hy17⟩) hH ?rest17
  case hy17 => (intro w hSw; (try dsimp only at hSw); go_simp; try with_reducible rfl)
  try simp only [Act.put, List.setIfInBounds_toArray, List.set_cons_zero, List.set_cons_succ, List.getElem_toArray, List.getElem_cons_zero, List.getElem_cons_succ]
  refine wpAnyH_take (i := 5) (v := ?v18) rfl (by kernel_rfl) (by kernel_rfl) (by kernel_rfl) (fun _ _ _ h => h) (Or.inl ⟨by rfl, ?hy18⟩) hH ?rest18
  case hy18 => (intro w hSw; (try dsimp only at hSw); obtain ⟨q0, q1, q2, q3, q4, q5, q6, q7, q8, q9, q10, q11, q12⟩ := SB.out w hSw; go_simp; try with_reducible rfl)
  try simp only [Act.put, List.setIfInBounds_toArray, List.set_cons_zero, List.set_cons_succ, List.getElem_toArray, List.getElem_cons_zero, List.getElem_cons_succ]
  refine wpAnyH_take (i := 6) (v := ?v19) rfl (by kernel_rfl) (by kernel_rfl) (by kernel_rfl) (fun _ _ _ h => h) (Or.inl ⟨by rfl, ?hy19⟩) hH ?rest19
  case hy19 => (intro w hSw; (try dsimp only at hSw); go_simp; try with_reducible rfl)
  try simp only [Act.put, List.setIfInBounds_toArray, List.set_cons_zero, List.set_cons_succ, List.getElem_toArray, List.getElem_cons_zero, List.getElem_cons_succ]
  refine wpAnyH_take (i := 7) (v := ?v20) rfl (by kernel_rfl) (by kernel_rfl) (by kernel_rfl) (fun _ _ _ h => h) (Or.inl ⟨by rfl, ?hy20⟩) hH ?rest20
  case hy20 => (intro w hSw; (try dsimp only at hSw); go_simp; try with_reducible rfl)
  try simp only [Act.put, List.setIfInBounds_toArray, List.set_cons_zero, List.set_cons_succ, List.getElem_toArray, List.getElem_cons_zero, List.getElem_cons_succ]
  refine wpAnyH_take (i := 8) (v := ?v21) rfl (by kernel_rfl) (by kernel_rfl) (by kernel_rfl) (fun _ _ _ h => h) (Or.inl ⟨by rfl, ?hy21⟩) hH ?rest21
  case hy21 => (intro w hSw; (try dsimp only at hSw); obtain ⟨q0, q1, q2, q3, q4, q5, q6, q7, q8, q9, q10, q11, q12⟩ := SB.out w hSw; go_simp; try with_reducible rfl)
  try simp only [Act.put, List.setIfInBounds_toArray, List.set_cons_zero, List.set_cons_succ, List.getElem_toArray, List.getElem_cons_zero, List.getElem_cons_succ]
  refine wpAnyH_ready (rs := [9]) (by kernel_rfl) (by simp) ?_
  refine AllReadyH.cons rfl (fun K hK => ?_) AllReadyH.nil
  go_simp
  go_at_call 43
  with_reducible refine (HF _ S9.out).out.mono ?_
  rintro e wq22 ⟨A9, c9, rfl, fq22, bq22⟩
  go_wp2_with fail
  refine hK.out _ _ (hH.trans (bq22.mono (by show _ ≤ W0.heap.size; rw [SZ.out]; omega))) (fun hH2 => ?_)
  clear hK K hH
  have hH := hH2
  clear hH2
  try simp only [Act.put, List.setIfInBounds_toArray, List.set_cons_zero, List.set_cons_succ, List.getElem_toArray, List.getElem_cons_zero, List.getElem_cons_succ]
  refine wpAnyH_take (i := 10) (v := ?v23) rfl (by kernel_rfl) (by kernel_rfl) (by kernel_rfl) (fun _ _ _ h => h) (Or.inl ⟨by rfl, ?hy23⟩) hH ?rest23
  case hy23 => (intro w hSw; (try dsimp only at hSw); go_simp; try with_reducible rfl)
  try simp only [Act.put, List.setIfInBounds_toArray, List.set_cons_zero, List.set_cons_succ, List.getElem_toArray, List.getElem_cons_zero, List.getElem_cons_succ]
  refine wpAnyH_take (i := 11) (v := ?v24) rfl (by kernel_rfl) (by kernel_rfl) (by kernel_rfl) (fun _ _ _ h => h) (Or.inl ⟨by rfl, ?hy24⟩) hH ?rest24
  case hy24 => (intro w hSw; (try dsimp only at hSw); go_simp; try with_reducible rfl)
  try simp only [Act.put, List.setIfInBounds_toArray, List.set_cons_zero, List.set_cons_succ, List.getElem_toArray, List.getElem_cons_zero, List.getElem_cons_succ]
  refine wpAnyH_ready (rs := [12]) (by kernel_rfl) (by simp) ?_
  refine AllReadyH.cons rfl (fun K hK => ?_) AllReadyH.nil
  have Z9 := (show Cx W0.drew (w.heap.size + 1) c0 none 0 from ZA.out).on bq22 ZA.out.lt
  have fz := Z9.free
  obtain ⟨z0, z1, z2, z3, z4, z5, z6, z7, z8⟩ := id Z9.cc
  have L9 := below_cput hH (B := w.heap.size + 1) (Nat.le_refl _) (cw k a) A9 c9
  have E9 := Lib.hid (Z9.put (cw k a) A9 c9)
  have F9 := Lib.hid (fq22.cput (B := w.heap.size + 1) (by show _ < W0.heap.size; rw [SZ.out]; omega) (cw k a) A9 c9)
  clear Z9
  go_simp
  refine hK.out _ _ (L9) (fun hH2 => ?_)
  clear hK K hH
  have hH := hH2
  clear hH2
  try simp only [Act.put, List.setIfInBounds_toArray, List.set_cons_zero, List.set_cons_succ, List.getElem_toArray, List.getElem_cons_zero, List.getElem_cons_succ]
  refine wpAnyH_done (by kernel_rfl) ?_ _
  go_wp2_with fail
  have LD : w.heap.size ≤ W0.drew.heap.size := HB.out.size
  exact bodyPost_ret (run_with (B := w.heap.size + 1) rfl E9.out) rfl ⟨A9, c9, rfl, F9.out.mono LD, HB.out.trans (L9.mono (Nat.le_succ _))⟩


end Go.Proofs.Ytgmfjoegfbaebaa.Rg
