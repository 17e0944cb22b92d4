/-
  The walks of slices.Backward and of the closure that it hands back: a list is told from its end. Conditions: at most 1000 things.
-/
import Derived.Test.YtnfjfpiijikniaaSm
import Derived.RangeFuncNested
import Derived.RangeFuncBound
import Derived.RangeFuncCalls
import Derived.RangeFuncLeaves
import Derived.Shelf.Abstract
import Derived.Shelf.RegionOpen
import Derived.OwnWalkIn
import Derived.TacticsInMore
import Derived.LoopNIn
import Derived.LoopIn
namespace Go.Proofs.Ytnfjfpiijikniaa.Gp
open Go.RowKit Go.Shelf
set_option linter.unusedVariables false
attribute [local go_sem] Oper.semAt_some

theorem back_any (v : Value) (hv : ∃ A n c, v = .slice A n c) (w : World) : Calls Try.prog 35 #[v] w (fun e w' => e = .returned (.func (.func 42) #[] #[.pointer (some ⟨w.heap.size, 0, none⟩)]) ∧ w' = w.alloc (.cells #[v] 29)) := by
  obtain ⟨A, n, c, rfl⟩ := hv
  go_enter Try.func35, Try.ntmps35
  go_wp2
  go_ret
  exact ⟨rfl, rfl⟩

/-- A thing among n. -/
abbrev Th (n : Nat) := {p : Nat // p < n}
/-- What comes: a thing, and where it stands. -/
abbrev Ty (n : Nat) := Th n × Nat
def ec {n : Nat} (x : Ty n) : Array Value := #[.int .i64 (x.2 : Int), .int .i64 (x.1.1 : Int)]
def seq {n : Nat} (L : List (Th n)) : List (Ty n) := L.zipIdx.reverse
theorem seq_len {n : Nat} (L : List (Th n)) : (seq L).length = L.length := by simp [seq]
theorem seq_at {n : Nat} (L : List (Th n)) {k : Nat} (hk : k < L.length) : (seq L)[k]'(by rw [seq_len]; exact hk) = (L[L.length - 1 - k], L.length - 1 - k) := by
  unfold seq
  rw [List.getElem_reverse]
  simp
theorem seq_take {n : Nat} (L : List (Th n)) {k : Nat} (hk : k < L.length) : (seq L).take (k + 1) = (seq L).take k ++ [(L[L.length - 1 - k], L.length - 1 - k)] := by
  rw [List.take_succ_eq_append_getElem (by rw [seq_len]; exact hk), seq_at L hk]

/-- What a round keeps: the box of what is told, and its row. -/
def Kq (Bb gl : Nat) (W W' : World) : Prop := W'.heap[Bb]? = W.heap[Bb]? ∧ W'.heap[gl]? = W.heap[gl]?
theorem kq_t {Bb gl : Nat} {A B C : World} (h : Kq Bb gl A B) (k : Kq Bb gl B C) : Kq Bb gl A C := ⟨k.1.trans h.1, k.2.trans h.2⟩
theorem kq_b {Bb gl : Nat} {w : World} (hB : Bb < w.heap.size) (hg : gl < w.heap.size) (W : World) (l : Nat) (o o' : Obj) (hl : w.heap.size ≤ l) (h : W.heap[l]? = some o) (h1 : o.isCells = false) (h2 : o.isWalk = false) : Kq Bb gl W (W.putObj l o') :=
  ⟨World.putObj_heap_other (fun e => by omega), World.putObj_heap_other (fun e => by omega)⟩

set_option maxRecDepth 100000 in
set_option maxHeartbeats 2000000 in
theorem iter_in (m : Nat) (hm : 1 ≤ m) (l Bb gl n : Nat) (A : Option Addr) (c : Nat) (L : List (Th n)) (hl : L.length ≤ 1000) (J Jx : List (Ty n) → World → Prop)
    (hY : ∀ pre x W, J pre W → pre.length < L.length → YieldAt Fence.wide (m - 1) Try.prog l (ec x) W fun e W' => (e = .returned (.bool true) ∧ J (pre ++ [x]) W' ∧ Kq Bb gl W W') ∨ (e = .returned (.bool false) ∧ Jx (pre ++ [x]) W'))
    (W : World) (hB : W.heap[Bb]? = some (.cells #[.slice A L.length c] 29 (0, 0))) (hA : L ≠ [] → A = some ⟨gl, 0, none⟩) (hc : ∀ j x, L[j]? = some x → W.cell? ⟨gl, j, none⟩ = some (.int .i64 (x.1 : Int))) (h0 : J [] W) :
    CallsIn Fence.wide m Try.prog 42 #[.func (.yield l) #[] #[], .pointer (some ⟨Bb, 0, none⟩)] W fun e W' => (∃ v, e = .returned v) ∧ ((∃ ys, ys = seq L ∧ J ys W') ∨ (∃ pre, True ∧ Jx pre W')) := by
  have cB := World.cell?_of_block (w := W) (w' := W) (a := ⟨Bb, 0, none⟩) rfl
  have c0 : W.cell? ⟨Bb, 0, none⟩ = some (.slice A L.length c) := by rw [cell_of_row W Bb 0 _ 29 _ hB]; rfl
  have HB := Lib.hid hB
  have HC := Lib.hid hc
  have HY := Lib.hid hY
  have HA := Lib.hid hA
  clear hB hc hY cB hA
  refine callsIn_of_wp Try.func42 rfl trivial ?_ rfl
  simp only [Try.ntmps42, List.size_toArray, List.length_cons, List.length_nil, Nat.reduceAdd, Nat.reduceSub, Array.replicate_succ, Array.replicate_zero, List.push_toArray, List.append_toArray, List.nil_append, List.cons_append]
  gi_wp2
  gi_loopw [3] (fun t wr => ∃ (k : Nat) (z : Int), k ≤ L.length ∧ t = .int .i64 z ∧ Hid (z = (L.length : Int) - 1 - (k : Int)) ∧ J ((seq L).take k) wr ∧ Kq Bb gl W wr) (fun t _ => (intOf t + 1).toNat)
  case atStart => exact ⟨0, _, Nat.zero_le _, rfl, by show _ = _; simp, by simpa using h0, rfl, rfl⟩
  case round =>
    obtain ⟨k, z, hk, rfl, hz, hJs, hK⟩ := hrel
    clear c0 h0
    by_cases hlt : k < L.length
    · obtain ⟨q, hq⟩ : ∃ q : Nat, q = L.length - 1 - k := ⟨_, rfl⟩
      obtain rfl : z = (q : Int) := by have := hz.out; omega
      have hql : q < L.length := by omega
      have hqi : (q : Int) < (L.length : Int) := by omega
      have hq0 : (0 : Int) ≤ (q : Int) := by omega
      obtain rfl := HA.out (by rintro rfl; simp at hlt)
      have cB : wr.cell? ⟨Bb, 0, none⟩ = some (.slice (some ⟨gl, 0, none⟩) L.length c) := by rw [cell_of_row wr Bb 0 _ 29 _ (hK.1.trans HB.out)]; rfl
      have cx : wr.cell? ⟨gl, q, none⟩ = some (.int .i64 (L[q].1 : Int)) := (World.cell?_of_block (a := ⟨gl, q, none⟩) hK.2).trans (HC.out q L[q] (List.getElem?_eq_getElem hql))
      have hT : (seq L).take (k + 1) = (seq L).take k ++ [(L[q], q)] := by
        have := seq_take L hlt
        simp only [← hq] at this
        exact this
      have HT := Lib.hid hT
      have hkl : ((seq L).take k).length < L.length := by rw [List.length_take, seq_len]; omega
      obtain ⟨fn, tmps, assign, body, hy, hRd⟩ := HY.out _ (L[q], q) wr hJs hkl
      generalize L[q] = x at *
      have HQ := Lib.hid hq
      clear hT hkl hq
      simp only [ec] at hy
      gi_wp2
      refine hRd.mono ?_
      rintro e W3 (⟨rfl, hJ3, hk3⟩ | ⟨rfl, hJx3⟩)
      · have hw : wrap64 ((q : Int) - 1) = (q : Int) - 1 := by unfold wrap64; omega
        gi_wp2
        go_roundw
        case rel => exact ⟨k + 1, (q : Int) - 1, by omega, by go_num, by have := HQ.out; show _ = _; omega, by rw [HT.out]; exact hJ3, kq_t hK hk3⟩
        case measure => simp [intOf]
      · gi_wp2
        refine bodyPost_ret (results_none rfl _ _ _) rfl ?_
        exact ⟨⟨_, rfl⟩, .inr ⟨_, trivial, hJx3⟩⟩
    · obtain rfl : k = L.length := by omega
      have hz1 : z = -1 := by have := hz.out; omega
      subst hz1
      have HE : Hid ((seq L).take L.length = seq L) := List.take_of_length_le (by rw [seq_len]; exact Nat.le_refl _)
      gi_wp2
      go_end0
      exact ⟨⟨_, rfl⟩, .inl ⟨_, rfl, by rw [← HE.out]; exact hJs⟩⟩

/-- What is told from its end: all of it, or some first ones where a round said 'no more'. -/
theorem stops (m : Nat) (hm : 1 ≤ m) (Bb gl n : Nat) (A : Option Addr) (c : Nat) (L : List (Th n)) (hl : L.length ≤ 1000) (w : World) (hBl : Bb < w.heap.size) (hgl : gl < w.heap.size)
    (hB : w.heap[Bb]? = some (.cells #[.slice A L.length c] 29 (0, 0))) (hA : L ≠ [] → A = some ⟨gl, 0, none⟩) (hc : ∀ j x, L[j]? = some x → w.cell? ⟨gl, j, none⟩ = some (.int .i64 (x.1 : Int))) :
    SeqStopsK Fence.wide m Try.prog 42 #[.pointer (some ⟨Bb, 0, none⟩)] (ec (n := n)) (Kq Bb gl) (fun ys => ys = seq L) (fun _ => True) L.length w := fun l J Jx W hW hJ hJx hY h0 =>
  iter_in m hm l Bb gl n A c L hl J Jx hY W ((hW.block Bb hBl).trans hB) hA (fun j x hx => (World.cell?_of_block (a := ⟨gl, j, none⟩) (hW.block gl hgl)).trans (hc j x hx)) h0

end Go.Proofs.Ytnfjfpiijikniaa.Gp
