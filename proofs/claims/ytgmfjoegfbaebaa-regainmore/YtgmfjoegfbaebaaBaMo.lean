/-
  The walk of Most: the greatest one of some ballots. Conditions: at most 1000 of them.
-/
import Derived.Test.YtgmfjoegfbaebaaBaNx
namespace Go.Proofs.Ytgmfjoegfbaebaa.Ba
open Go.RowKit
set_option linter.unusedVariables false
attribute [local go_sem ↓ high] eq23 guard23 neq23 guard23n

theorem run_res15 {V : World} {tm : Array Value} {B : Nat} {x y : Int} (h2 : tm[2]?.getD undef = .pointer (some ⟨B, 0, none⟩)) (hb : Bb V B x y) :
    (results Try.f44 tm).run Try.prog V = .ok (.agg #[.int .i64 x, .int .i64 y]) V := by
  obtain ⟨c0, c1⟩ := hb
  simp [results, Try.results44, h2, go_sem, c0, c1]

theorem w2_first (w : World) (x y u v : Int) : Bx ((w.alloc (.cells #[.int .i64 x, .int .i64 y] 40)).alloc (.cells #[.int .i64 u, .int .i64 v] 40)) w.heap.size x y := (bx_new w x y).old _

theorem Bs.head {w : World} {B : Nat} {A : Option Addr} {a : Int × Int} {t : List (Int × Int)} (h : Bs w B A (a :: t)) : ∃ b off, A = some ⟨b, off, none⟩ ∧ b < B ∧ w.cell? ⟨b, off, none⟩ = some (.int .i64 a.1) ∧ w.cell? ⟨b, off + 1, none⟩ = some (.int .i64 a.2) := by
  obtain ⟨b, off, h1, h2, h3, h4⟩ := h.at_ (i := 0) (by simp)
  exact ⟨b, off, h1, h2, by simpa using h3, by simpa using h4⟩

set_option maxHeartbeats 1000000 in
theorem most_some (A : Option Addr) (c n : Nat) (a : Int × Int) (t : List (Int × Int)) (w : World) (hn : n = (a :: t).length) (hl : t.length ≤ 1000) (hc : n ≤ c) (hs : Bs w w.heap.size A (a :: t)) : Calls Try.prog 44 #[.slice A n c] w (BalPost w (mo a t).1 (mo a t).2) := by
  obtain ⟨A', r1, r2, hs'⟩ := tail_run hs c n hn (by omega)
  obtain ⟨b, off, rfl, hb, g0, g1⟩ := hs.head
  have hn0 : ((n : Int) == 0) = false := by rw [beq_eq_false_iff_ne]; simp at hn; omega
  have hn1 : 0 < n := by simp at hn; omega
  have X0 := w2_first w 0 0 a.1 a.2
  have M0 := w2_box w 0 0 a.1 a.2
  have B0 := two_below w 0 0 a.1 a.2
  have HM0 : Hid (mo a (t.take 0) = a) := rfl
  have HMS := Lib.hid (mo_take a t)
  clear hs hn
  have e0 : Hid ((mo a (t.take 0)).1 = a.1 ∧ (mo a (t.take 0)).2 = a.2) := ⟨rfl, rfl⟩
  generalize a.1 = ax at *
  generalize a.2 = ay at *
  go_enter Try.func44, Try.ntmps44
  go_wp2
  generalize ((w.alloc (.cells #[.int .i64 0, .int .i64 0] 40)).alloc (.cells #[.int .i64 ax, .int .i64 ay] 40)) = W0 at *
  go_loopw [16] (fun i wr => ∃ k : Nat, k ≤ t.length ∧ i = .int .i64 (k : Int) ∧ Bx wr (w.heap.size + 1) (mo a (t.take k)).1 (mo a (t.take k)).2 ∧ Bx wr w.heap.size 0 0 ∧ Below w.heap.size w wr) (fun i _ => t.length - (intOf i).toNat)
  case atStart => exact ⟨0, by omega, rfl, by rw [e0.out.1, e0.out.2]; exact M0, X0, B0⟩
  case round =>
    obtain ⟨k, hk, rfl, hM, hX, hbel⟩ := hrel
    have hsz := hbel.size
    have hMl := hM.lt
    clear M0 X0 B0 e0 HM0 g0 g1 r1 r2
    by_cases hlt : k < t.length
    · obtain ⟨b', off', rfl, hb', x0, x1⟩ := (hs'.below hbel).at_ hlt
      have hki : (k : Int) < (t.length : Int) := by omega
      have HS := Lib.hid (HMS.out k hlt)
      generalize t[k] = r at *
      obtain ⟨u, v⟩ := r
      simp only at x0 x1
      generalize mo a (t.take k) = m at *
      obtain ⟨mx, my⟩ := m
      simp only at hM
      have HA : Hid (Calls Try.prog 47 #[.agg #[.int .i64 u, .int .i64 v], .agg #[.int .i64 mx, .int .i64 my]] (wr.alloc (.cells #[.int .i64 u, .int .i64 v] 40)) (BoolPost (wr.alloc (.cells #[.int .i64 u, .int .i64 v] 40)) (ab u v mx my))) := ab_any u v mx my _
      obtain ⟨p0, p1⟩ := id hM.bb
      go_wp2_with fail
      have N1 := bx_new wr u v
      have M1 := hM.old (.cells #[.int .i64 u, .int .i64 v] 40)
      have X1 := hX.old (.cells #[.int .i64 u, .int .i64 v] 40)
      have B1 := hbel.alloc hsz (.cells #[.int .i64 u, .int .i64 v] 40)
      have Z1 : (wr.alloc (.cells #[.int .i64 u, .int .i64 v] 40)).heap.size = wr.heap.size + 1 := by simp
      clear p0 p1 x0 x1 hX hM
      generalize wr.alloc (.cells #[.int .i64 u, .int .i64 v] 40) = W1 at *
      refine HA.out.mono ?_
      rintro e w2 ⟨rfl, B2⟩
      have N2 := N1.on B2 (by omega)
      have M2 := M1.on B2 (by omega)
      have X2 := X1.on B2 (by omega)
      have B3 := B1.trans (B2.mono B1.size)
      clear N1 M1 X1 B1 B2 HA Z1
      rcases hab : ab u v mx my with _ | _
      · have HG : Hid (gr (mx, my) (u, v) = (mx, my)) := by simp [gr, hab, Hid]
        clear hab
        go_wp2
        go_roundw
        case rel => exact ⟨k + 1, by omega, by go_num, by rw [HS.out, HG.out]; exact M2, X2, B3⟩
        case measure => simp [intOf]; omega
      · have HG : Hid (gr (mx, my) (u, v) = (u, v)) := by simp [gr, hab, Hid]
        clear hab
        obtain ⟨n0, n1⟩ := id N2.bb
        obtain ⟨p0, p1⟩ := id M2.bb
        have f0 := M2.free 0
        have f1 := M2.free 1
        go_wp2
        have M3 := (M2.set0 u).set1 v
        have X3 := (X2.other (p := ⟨w.heap.size + 1, 0, none⟩) (by show w.heap.size ≠ w.heap.size + 1; omega) (.int .i64 u)).other (p := ⟨w.heap.size + 1, 1, none⟩) (by show w.heap.size ≠ w.heap.size + 1; omega) (.int .i64 v)
        have B4 := (B3.setCell (p := ⟨w.heap.size + 1, 0, none⟩) (Nat.le_succ _) (.int .i64 u)).setCell (p := ⟨w.heap.size + 1, 1, none⟩) (Nat.le_succ _) (.int .i64 v)
        go_roundw
        case rel => exact ⟨k + 1, by omega, by go_num, by rw [HS.out, HG.out]; exact M3, X3, B4⟩
        case measure => simp [intOf]; omega
    · obtain rfl : k = t.length := by omega
      rw [List.take_length] at hM
      clear HMS hs'
      generalize mo a t = m at *
      obtain ⟨mx, my⟩ := m
      simp only at hM
      obtain ⟨p0, p1⟩ := id hM.bb
      obtain ⟨q0, q1⟩ := id hX.bb
      have f0 := hX.free 0
      have f1 := hX.free 1
      go_wp2
      exact bodyPost_ret (run_res15 (B := w.heap.size) rfl ((hX.set0 mx).set1 my).bb) rfl ⟨rfl, (hbel.setCell (p := ⟨w.heap.size, 0, none⟩) (Nat.le_refl _) _).setCell (p := ⟨w.heap.size, 1, none⟩) (Nat.le_refl _) _⟩

theorem most_any (A : Option Addr) (c : Nat) (l : List (Int × Int)) (w : World) (hl : l.length ≤ 1000) (hc : l.length ≤ c) (hs : Bs w w.heap.size A l) : Calls Try.prog 44 #[.slice A l.length c] w (BalPost w (ms l).1 (ms l).2) := by
  cases l with
  | nil =>
    have e : Hid (ms [] = (0, 0)) := rfl
    go_enter Try.func44, Try.ntmps44
    go_wp2
    exact bodyPost_ret (run_res15 (B := w.heap.size) rfl (bx_new w 0 0).bb) rfl ⟨rfl, one_below ..⟩
  | cons a t => exact most_some A c _ a t w rfl (by simp at hl; omega) hc hs

end Go.Proofs.Ytgmfjoegfbaebaa.Ba
