/-
  The walk of the iterator over the reports that count (the closure that heard.counting hands back), and its contract. Conditions: at most 200 reports, at most 7 replicas.
-/
import Derived.Test.YtgmfjoegfbaebaaRgIx
import Derived.RangeFuncNested
import Derived.RangeFuncBound
import Derived.RangeFuncCalls
import Derived.RangeFuncLeaves
import Derived.Shelf.Abstract
import Derived.Shelf.RegionOpen
import Derived.OwnWalkIn
import Derived.TacticsInMore
import Derived.LoopNIn
import Derived.LoopIn
namespace Go.Proofs.Ytgmfjoegfbaebaa.Rg
open Go.RowKit Go.Shelf In
set_option linter.unusedVariables false
attribute [local go_sem] Oper.semAt_some

/-- What a round keeps: all below n₀, and the box of what was heard. -/
def Kq (n₀ Bh : Nat) (W W' : World) : Prop := Below n₀ W W' ∧ W'.heap[Bh]? = W.heap[Bh]?
theorem kq_t {n₀ Bh : Nat} {A B C : World} (h : Kq n₀ Bh A B) (k : Kq n₀ Bh B C) : Kq n₀ Bh A C := ⟨h.1.trans k.1, k.2.trans h.2⟩
theorem kq_b {n₀ Bh : Nat} {w : World} (hn : n₀ ≤ w.heap.size) (hB : Bh < w.heap.size) (W : World) (l : Nat) (o o' : Obj) (hl : w.heap.size ≤ l) (h : W.heap[l]? = some o) (h1 : o.isCells = false) (h2 : o.isWalk = false) : Kq n₀ Bh W (W.putObj l o') :=
  ⟨belowK_b hn W l o o' hl h h1 h2, World.putObj_heap_other (fun e => by omega)⟩
theorem Kq.of {n₀ Bh : Nat} {W W' : World} (h : Below W.heap.size W W') (hn : n₀ ≤ W.heap.size) (hB : Bh < W.heap.size) : Kq n₀ Bh W W' := ⟨h.mono hn, h.block Bh hB⟩
theorem grown_none {W W' : World} (h : Below W.heap.size W W') : W.grownBy W' none := ⟨h.os, h.tape, h.output, h.size, fun k hk _ => h.block k hk⟩

theorem cta_pre (l : List Rp) {k n : Nat} (h : k ≤ n) : cta l k <+: cta l n := by
  obtain ⟨d, rfl⟩ := Nat.exists_eq_add_of_le h
  clear h
  induction d with
  | zero => exact List.prefix_refl _
  | succ d ih => exact ih.trans (by rw [show k + (d + 1) = (k + d) + 1 from rfl, cta_succ]; exact List.prefix_append _ _)

set_option maxRecDepth 100000 in
set_option maxHeartbeats 2000000 in
theorem iter_in (m : Nat) (hm : 1 ≤ m) (l Bh n₀ n : Nat) (h7 : n ≤ 7) (o : Int) (A : Option Addr) (c : Nat) (L : List Rp) (hl : L.length ≤ 200) (J Jx : List (Of L) → World → Prop)
    (hJ : ∀ s W W', J s W → Below W.heap.size W W' → J s W')
    (hY : ∀ pre x W, J pre W → pre.length < 7 → YieldAt Fence.wide (m - 1) Try.prog l #[rr x.1] W fun e W' => (e = .returned (.bool true) ∧ J (pre ++ [x]) W' ∧ Kq n₀ Bh W W') ∨ (e = .returned (.bool false) ∧ Jx (pre ++ [x]) W'))
    (W : World) (hH : Hx W Bh n o A L.length c) (hs : Ls W n₀ A L) (hn0 : n₀ ≤ W.heap.size) (h0 : J [] W) :
    CallsIn Fence.wide m Try.prog 40 #[.func (.yield l) #[] #[], .pointer (some ⟨Bh, 0, none⟩)] W fun e W' => (∃ v, e = .returned v) ∧ ((∃ ys, ys = cta L n ∧ J ys W') ∨ (∃ pre, pre <+: cta L n ∧ Jx pre W')) := by
  obtain ⟨g0, g1, g2⟩ := hH.cells
  have HH := Lib.hid hH
  have HS := Lib.hid hs
  have HJ := Lib.hid hJ
  have HY := Lib.hid hY
  clear hH hs hJ hY
  refine callsIn_of_wp Try.func40 rfl trivial ?_ rfl
  simp only [Try.ntmps40, List.size_toArray, List.length_cons, List.length_nil, Nat.reduceAdd, Nat.reduceSub, Array.replicate_succ, Array.replicate_zero, List.push_toArray, List.append_toArray, List.nil_append, List.cons_append]
  gi_wp2
  gi_loopw [7] (fun t wr => ∃ k : Nat, k ≤ n ∧ t = .int .i64 (k : Int) ∧ J (cta L k) wr ∧ Hx wr Bh n o A L.length c ∧ Ls wr n₀ A L ∧ n₀ ≤ wr.heap.size) (fun t _ => n - (intOf t).toNat)
  case atStart => exact ⟨0, Nat.zero_le _, rfl, h0, HH.out, HS.out, hn0⟩
  case round =>
    obtain ⟨k, hk, rfl, hJs, hH, hs, hn1⟩ := hrel
    clear g0 g1 g2 HH HS h0
    by_cases hlt : k < n
    · have hki : (k : Int) < (n : Int) := by omega
      obtain ⟨g0, g1, g2⟩ := hH.cells
      have hBl := hH.lt
      have B1 : Below wr.heap.size wr (wr.alloc (.cells #[.int .i64 (k : Int)] 3)) := (Below.refl _ _).alloc (Nat.le_refl _) _
      have HI : Hid (Calls Try.prog 41 #[.slice A L.length c, .func (.func 42) #[] #[.pointer (some ⟨wr.heap.size, 0, none⟩)]] (wr.alloc (.cells #[.int .i64 (k : Int)] 3)) (FndP (wr.alloc (.cells #[.int .i64 (k : Int)] 3)) L ((k : Int) + 1))) :=
        index_any wr.heap.size k (by omega) A c L _ ((hs.below (B1.mono hn1)).mono (by simp; omega)) (by unfold Nb; simp) hl
      have hbB : Hid (n₀ ≤ wr.heap.size ∧ Bh < wr.heap.size) := ⟨hn1, hBl⟩
      gi_wp2_with fail
      refine ⟨trivial, ?_⟩
      refine (callsIn_wide.2 HI.out).mono ?_
      rintro e w2 ⟨z, rfl, hz, hb2⟩
      have B2 := B1.trans (hb2.mono B1.size)
      have J2 := HJ.out _ _ _ hJs B2
      have H2 := hH.on B2 hBl
      have S2 := hs.below (B2.mono hn1)
      have N2 : n₀ ≤ w2.heap.size := Nat.le_trans hn1 B2.size
      clear g0 g1 g2 hJs hs hH HI B1 hb2
      rcases hz with ⟨rfl, hz⟩ | ⟨q, rfl, hq, hqf, hqn⟩
      · have e1 : cta L (k + 1) = cta L k := by rw [cta_succ, fnd_none hz]; simp
        have E1 := Lib.hid e1
        clear e1 hz
        gi_wp2
        refine ⟨fun _ h => (by cases h), ?_⟩
        gi_wp2
        go_roundw
        case rel => exact ⟨k + 1, by omega, by go_num, by rw [E1.out]; exact J2, H2, S2, N2⟩
        case measure => simp [intOf]; omega
      · have e1 : cta L (k + 1) = cta L k ++ [⟨L[q], List.getElem_mem hq⟩] := by rw [cta_succ, fnd_some hq hqf hqn]; rfl
        have E1 := Lib.hid e1
        have hkl : (cta L k).length < 7 := by have := cta_len L k; omega
        obtain ⟨b, off, hA, hb, hR, hX⟩ := S2.at_ hq
        obtain ⟨q0, q1, q2, q3, q4, q5, q6, q7, q8, q9, q10, q11, q12, q13⟩ := hR
        obtain ⟨fn, tmps, assign, body, hy, hRd⟩ := HY.out _ ⟨L[q], List.getElem_mem hq⟩ w2 J2 hkl
        obtain ⟨g0, g1, g2⟩ := H2.cells
        subst hA
        dsimp only at hy
        have hqi : (q : Int) < (L.length : Int) := by omega
        have hq0 : (0 : Int) ≤ (q : Int) := by omega
        clear e1 hqf hqn
        gi_wp2
        refine hRd.mono ?_
        rintro e W3 (⟨rfl, hJ3, hk3⟩ | ⟨rfl, hJx3⟩)
        · have H3 : Hx W3 Bh n o _ L.length c := hk3.2.trans H2
          have S3 := S2.below hk3.1
          have N3 : n₀ ≤ W3.heap.size := Nat.le_trans N2 hk3.1.size
          gi_wp2
          go_roundw
          case rel => exact ⟨k + 1, by omega, by go_num, by rw [E1.out]; exact hJ3, H3, S3, N3⟩
          case measure => simp [intOf]; omega
        · have hpre : cta L k ++ [⟨L[q], List.getElem_mem hq⟩] <+: cta L n := by rw [← E1.out]; exact cta_pre L (by omega)
          gi_wp2
          refine bodyPost_ret (results_none rfl _ _ _) rfl ?_
          exact ⟨⟨_, rfl⟩, .inr ⟨_, hpre, hJx3⟩⟩
    · obtain rfl : k = n := by omega
      gi_wp2
      go_end0
      exact ⟨⟨_, rfl⟩, .inl ⟨_, rfl, hJs⟩⟩

end Go.Proofs.Ytgmfjoegfbaebaa.Rg
