/-
  The walk of the document's Most: the greatest one of some ballots. Conditions: at most 1000 of them.
-/
import Derived.Test.YtnlpfapfijckiaaMo
namespace Go.Proofs.Ytnlpfapfijckiaa
open Go.RowKit
set_option linter.unusedVariables false
attribute [local go_sem ↓ high] eq23 guard23 neq23 guard23n

theorem run_res16 {V : World} {tm : Array Value} {B : Nat} {x y : Int} (h2 : tm[2]?.getD undef = .pointer (some ⟨B, 0, none⟩)) (hb : Bb V B x y) :
    (results Try.f16 tm).run Try.prog V = .ok (.agg #[.int .i64 x, .int .i64 y]) V := by
  obtain ⟨c0, c1⟩ := hb
  simp [results, Try.results16, h2, go_sem, c0, c1]

theorem Bs.next {w : World} {B : Nat} {A : Option Addr} {a : Int × Int} {t : List (Int × Int)} (h : Bs w B A (a :: t)) {j k : Nat} (hj : j = k + 1) (hk : k < t.length) : ∃ b off, A = some ⟨b, off, none⟩ ∧ b < B ∧ w.cell? ⟨b, off + j * 2, none⟩ = some (.int .i64 (t[k]).1) ∧ w.cell? ⟨b, off + j * 2 + 1, none⟩ = some (.int .i64 (t[k]).2) := by
  subst hj
  obtain ⟨b, off, h1, h2, h3, h4⟩ := h.at_ (i := k + 1) (by simp; omega)
  exact ⟨b, off, h1, h2, by simpa using h3, by simpa using h4⟩

/-- Which way the document's comparison sends the greatest one so far. -/
theorem gr_cm (mx my u v : Int) : (0 < cm u v mx my ∧ gr (mx, my) (u, v) = (u, v)) ∨ (cm u v mx my ≤ 0 ∧ gr (mx, my) (u, v) = (mx, my)) := by
  rcases cm_cases u v mx my with ⟨e, h⟩ | ⟨e, h⟩ | ⟨e, h⟩
  · refine .inr ⟨by omega, if_neg ?_⟩
    rw [ab_iff]; simp only; omega
  · exact .inl ⟨by omega, if_pos (ab_iff.2 h)⟩
  · refine .inr ⟨by omega, if_neg ?_⟩
    rw [ab_iff]; simp only; omega

set_option maxHeartbeats 1000000 in
theorem rmost_some (A : Option Addr) (c n : Nat) (a : Int × Int) (t : List (Int × Int)) (w : World) (hn : n = (a :: t).length) (hl : n ≤ 1001) (hs : Bs w w.heap.size A (a :: t)) : Calls Try.prog 16 #[.slice A n c] w (BalPost w (mo a t).1 (mo a t).2) := by
  obtain ⟨b, off, rfl, hb, g0, g1⟩ := hs.head
  have hn0 : ((n : Int) == 0) = false := by rw [beq_eq_false_iff_ne]; simp at hn; omega
  have hn1 : 0 < n := by simp at hn; omega
  have X0 := w2_first w 0 0 a.1 a.2
  have M0 := w2_box w 0 0 a.1 a.2
  have B0 := two_below w 0 0 a.1 a.2
  have HMS := Lib.hid (mo_take a t)
  have HN : Hid (n = t.length + 1) := hn
  clear hn
  have e0 : Hid ((mo a (t.take 0)).1 = a.1 ∧ (mo a (t.take 0)).2 = a.2) := ⟨rfl, rfl⟩
  generalize hax : a.1 = ax at *
  generalize hay : a.2 = ay at *
  clear hax hay
  go_enter Try.func16, Try.ntmps16
  go_wp2
  generalize ((w.alloc (.cells #[.int .i64 0, .int .i64 0] 23)).alloc (.cells #[.int .i64 ax, .int .i64 ay] 23)) = W0 at *
  go_loopw [4] (fun i wr => ∃ j : Nat, 1 ≤ j ∧ j ≤ n ∧ i = .int .i64 (j : Int) ∧ Bx wr (w.heap.size + 1) (mo a (t.take (j - 1))).1 (mo a (t.take (j - 1))).2 ∧ Bx wr w.heap.size 0 0 ∧ Below w.heap.size w wr) (fun i _ => n - (intOf i).toNat)
  case atStart => exact ⟨1, Nat.le_refl _, by omega, rfl, by rw [e0.out.1, e0.out.2]; exact M0, X0, B0⟩
  case round =>
    obtain ⟨j, hj1, hj, rfl, hM, hX, hbel⟩ := hrel
    have hsz := hbel.size
    have hMl := hM.lt
    clear M0 X0 B0 e0 g0 g1
    by_cases hlt : j < n
    · have hk : j - 1 < t.length := by have := HN.out; omega
      obtain ⟨b', off', hA, hb', x0, x1⟩ := (hs.below hbel).next (j := j) (k := j - 1) (by omega) hk
      have HS : Hid (mo a (t.take (j + 1 - 1)) = gr (mo a (t.take (j - 1))) t[j - 1]) := by
        have := HMS.out (j - 1) hk
        rw [show j - 1 + 1 = j + 1 - 1 by omega] at this
        exact this
      simp only [Option.some.injEq, Addr.mk.injEq] at hA
      obtain ⟨rfl, rfl, _⟩ := hA
      generalize t[j - 1] = r at *
      obtain ⟨u, v⟩ := r
      simp only at x0 x1
      generalize mo a (t.take (j - 1)) = m at *
      obtain ⟨mx, my⟩ := m
      simp only at hM
      clear hs HMS hk
      have hji : (j : Int) < (n : Int) := by omega
      have S0 : (Bb wr (w.heap.size + 1) mx my ∧ (wr.cell? ⟨b, off + j * 2, none⟩ = some (.int .i64 u) ∧ wr.cell? ⟨b, off + j * 2 + 1, none⟩ = some (.int .i64 v)) ∧ Below wr.heap.size wr wr) := ⟨hM.bb, ⟨x0, x1⟩, Below.refl _ _⟩
      have hbw : b < wr.heap.size := by omega
      have KB : ∀ p q, Below wr.heap.size p q → (Bb p (w.heap.size + 1) mx my ∧ (p.cell? ⟨b, off + j * 2, none⟩ = some (.int .i64 u) ∧ p.cell? ⟨b, off + j * 2 + 1, none⟩ = some (.int .i64 v)) ∧ Below wr.heap.size wr p) → (Bb q (w.heap.size + 1) mx my ∧ (q.cell? ⟨b, off + j * 2, none⟩ = some (.int .i64 u) ∧ q.cell? ⟨b, off + j * 2 + 1, none⟩ = some (.int .i64 v)) ∧ Below wr.heap.size wr q) := fun p q hb hS => ⟨hS.1.on hb hMl, ⟨(hb.cell (p := ⟨b, off + j * 2, none⟩) hbw).trans hS.2.1.1, (hb.cell (p := ⟨b, off + j * 2 + 1, none⟩) hbw).trans hS.2.1.2⟩, hS.2.2.trans hb⟩
      have KD : Hid (∀ p, (Bb p (w.heap.size + 1) mx my ∧ (p.cell? ⟨b, off + j * 2, none⟩ = some (.int .i64 u) ∧ p.cell? ⟨b, off + j * 2 + 1, none⟩ = some (.int .i64 v)) ∧ Below wr.heap.size wr p) → (Bb p.drew (w.heap.size + 1) mx my ∧ (p.drew.cell? ⟨b, off + j * 2, none⟩ = some (.int .i64 u) ∧ p.drew.cell? ⟨b, off + j * 2 + 1, none⟩ = some (.int .i64 v)) ∧ Below wr.heap.size wr p.drew)) := fun p hS => KB _ _ (Below.refl _ _).drew hS
      have KS : Hid (∀ p q, Below p.heap.size p q → (Bb p (w.heap.size + 1) mx my ∧ (p.cell? ⟨b, off + j * 2, none⟩ = some (.int .i64 u) ∧ p.cell? ⟨b, off + j * 2 + 1, none⟩ = some (.int .i64 v)) ∧ Below wr.heap.size wr p) → (Bb q (w.heap.size + 1) mx my ∧ (q.cell? ⟨b, off + j * 2, none⟩ = some (.int .i64 u) ∧ q.cell? ⟨b, off + j * 2 + 1, none⟩ = some (.int .i64 v)) ∧ Below wr.heap.size wr q)) := fun p q hb hS => KB _ _ (hb.mono hS.2.2.size) hS
      clear KB
      have HC : ∀ W, Hid (Calls Try.prog 14 #[.agg #[.int .i64 u, .int .i64 v], .agg #[.int .i64 mx, .int .i64 my]] W (IntPost W (cm u v mx my))) := fun W => rcmp_any u v mx my W
      have HG := gr_cm mx my u v
      generalize cm u v mx my = q at *
      obtain ⟨p0, p1⟩ := id hM.bb
      rcases HG with ⟨hq, hg⟩ | ⟨hq, hg⟩
      · have HG := Lib.hid hg
        clear hg
        have hq' : ¬ q ≤ 0 := by omega
        go_wp2_with fail
        go_region_held3 (fun p => (p.cell? ⟨w.heap.size + 1, 0, none⟩ = some (.int .i64 mx) ∧ p.cell? ⟨w.heap.size + 1, 1, none⟩ = some (.int .i64 my)) ∧ (p.cell? ⟨b, off + j * 2, none⟩ = some (.int .i64 u) ∧ p.cell? ⟨b, off + j * 2 + 1, none⟩ = some (.int .i64 v)) ∧ Below wr.heap.size wr p)
          (first | (exact S0) | (exact KD.out _ S0) | (refine KS.out _ _ hbm ?_; first | assumption | exact KD.out _ S0) | (refine KD.out _ ?_; assumption))
          (first | (go_at_call 14; (with_reducible refine (HC _).out.mono ?_); rintro e wm ⟨rfl, hbm⟩))
        all_goals (
          rename_i hSx
          have hB := hSx.2.2
          have M2 := hM.on hB (by omega)
          have X2 := hX.on hB (by omega)
          have B3 := hbel.trans (hB.mono hsz)
          obtain ⟨y0, y1⟩ := hSx.2.1
          clear KD KS S0 p0 p1 x0 x1 hM hX HC
          obtain ⟨p0, p1⟩ := id M2.bb
          have f0 := M2.free 0
          have f1 := M2.free 1
          go_wp2
          have M3 := (M2.set0 u).set1 v
          have X3 := (X2.other (p := ⟨w.heap.size + 1, 0, none⟩) (by show w.heap.size ≠ w.heap.size + 1; omega) (.int .i64 u)).other (p := ⟨w.heap.size + 1, 1, none⟩) (by show w.heap.size ≠ w.heap.size + 1; omega) (.int .i64 v)
          have B4 := (B3.setCell (p := ⟨w.heap.size + 1, 0, none⟩) (Nat.le_succ _) (.int .i64 u)).setCell (p := ⟨w.heap.size + 1, 1, none⟩) (Nat.le_succ _) (.int .i64 v)
          go_roundw
          case rel => exact ⟨j + 1, by omega, by omega, by go_num, by rw [HS.out, HG.out]; exact M3, X3, B4⟩
          case measure => simp [intOf]; omega)
      · have HG := Lib.hid hg
        clear hg
        go_wp2_with fail
        go_region_held3 (fun p => (p.cell? ⟨w.heap.size + 1, 0, none⟩ = some (.int .i64 mx) ∧ p.cell? ⟨w.heap.size + 1, 1, none⟩ = some (.int .i64 my)) ∧ (p.cell? ⟨b, off + j * 2, none⟩ = some (.int .i64 u) ∧ p.cell? ⟨b, off + j * 2 + 1, none⟩ = some (.int .i64 v)) ∧ Below wr.heap.size wr p)
          (first | (exact S0) | (exact KD.out _ S0) | (refine KS.out _ _ hbm ?_; first | assumption | exact KD.out _ S0) | (refine KD.out _ ?_; assumption))
          (first | (go_at_call 14; (with_reducible refine (HC _).out.mono ?_); rintro e wm ⟨rfl, hbm⟩))
        all_goals (
          rename_i hSx
          have hB := hSx.2.2
          have M2 := hM.on hB (by omega)
          have X2 := hX.on hB (by omega)
          have B3 := hbel.trans (hB.mono hsz)
          clear KD KS S0 p0 p1 x0 x1 hM hX HC hSx
          go_wp2
          go_roundw
          case rel => exact ⟨j + 1, by omega, by omega, by go_num, by rw [HS.out, HG.out]; exact M2, X2, B3⟩
          case measure => simp [intOf]; omega)
    · obtain rfl : j = n := by omega
      have e : t.take (j - 1) = t := List.take_of_length_le (by have := HN.out; omega)
      rw [e] at hM
      clear HMS hs e
      generalize mo a t = m at *
      obtain ⟨mx, my⟩ := m
      simp only at hM
      obtain ⟨p0, p1⟩ := id hM.bb
      obtain ⟨q0, q1⟩ := id hX.bb
      have f0 := hX.free 0
      have f1 := hX.free 1
      go_wp2
      exact bodyPost_ret (run_res16 (B := w.heap.size) rfl ((hX.set0 mx).set1 my).bb) rfl ⟨rfl, (hbel.setCell (p := ⟨w.heap.size, 0, none⟩) (Nat.le_refl _) _).setCell (p := ⟨w.heap.size, 1, none⟩) (Nat.le_refl _) _⟩

theorem rmost_any (A : Option Addr) (c : Nat) (l : List (Int × Int)) (w : World) (hl : l.length ≤ 1000) (hs : Bs w w.heap.size A l) : Calls Try.prog 16 #[.slice A l.length c] w (BalPost w (ms l).1 (ms l).2) := by
  cases l with
  | nil =>
    go_enter Try.func16, Try.ntmps16
    go_wp2
    exact bodyPost_ret (run_res16 (B := w.heap.size) rfl (bx_new w 0 0).bb) rfl ⟨rfl, one_below ..⟩
  | cons a t => exact rmost_some A c _ a t w rfl (by omega) hs

end Go.Proofs.Ytnlpfapfijckiaa
