/-
  The walk of Commit. Conditions: at most 1000 deps.
-/
import Derived.Test.YtdeaaeejkpghaaaDoorInVote
namespace Go.Proofs.YtdeaaeejkpghaaaDoor.In
open Go.RowKit
set_option linter.unusedVariables false
attribute [local go_sem ↓ high] Ba.eq23 Ba.guard23 Ba.neq23 Ba.guard23n eqc guardc

/-- What a commitment makes of what is known. -/
def co (r : Rd) (u s k h n : Int) (t : ByteArray) (q : Int) (xs : List Int) : Rd := if (r.st == 3) = true then r else ⟨3, r.pn, r.pb, r.vn, r.vb, u, s, k, h, n, t, q, xs⟩

theorem run_res_Commit {V : World} {tm : Array Value} {B : Nat} {r : Rd} {A : Option Addr} {c : Nat} (h2 : tm[6]?.getD undef = .pointer (some ⟨B, 0, none⟩)) (hb : Rb V B r A c) :
    (results Tryd.f17 tm).run Tryd.prog V = .ok (rv r A c) V := by
  obtain ⟨c0, c1, c2, c3, c4, c5, c6, c7, c8, c9, c10, c11, c12⟩ := hb
  simp [results, Tryd.results17, h2, go_sem, c0, c1, c2, c3, c4, c5, c6, c7, c8, c9, c10, c11, c12]

set_option maxHeartbeats 2000000 in
theorem commit_stay (r : Rd) (A A' : Option Addr) (c c' : Nat) (u s k h n : Int) (t : ByteArray) (q : Int) (xs : List Int) (w : World) (hs : At.Sl w w.heap.size .i64 A r.xs) (hs' : At.Sl w w.heap.size .i64 A' xs) (hl : r.xs.length ≤ 1000) (hl' : xs.length ≤ 1000) (h3 : (r.st == 3) = true) :
    Calls Tryd.prog 17 #[rv r A c, cv u s k h n t, av q A' xs.length c'] w (RecPost w r) := by
  have HO : ∀ W, At.Sl W W.heap.size .i64 A r.xs → Hid (Calls Tryd.prog 36 #[rv r A c] W (RecPost W r)) := fun W g => own_any r A c W g hl
  have X0 : Rx ((((w.alloc (.cells (rcs r A c) 30)).alloc (.cells #[.int .i64 u, .int .i64 s, .int .i64 k, .int .i64 h, .int .i64 n, .string t] 25)).alloc (.cells #[.int .i64 q, .slice A' xs.length c'] 28)).alloc (.cells #[.int .i64 0, .int .i64 0, .int .i64 0, .int .i64 0, .int .i64 0, .int .i64 0, .int .i64 0, .int .i64 0, .int .i64 0, .int .i64 0, .string ⟨#[]⟩, .int .i64 0, .slice none 0 0] 30)) (w.heap.size) r A c := by
    have h0 := rx_new w r A c
    exact (((h0.old _).old _).old _)
  have C0 : Cb ((((w.alloc (.cells (rcs r A c) 30)).alloc (.cells #[.int .i64 u, .int .i64 s, .int .i64 k, .int .i64 h, .int .i64 n, .string t] 25)).alloc (.cells #[.int .i64 q, .slice A' xs.length c'] 28)).alloc (.cells #[.int .i64 0, .int .i64 0, .int .i64 0, .int .i64 0, .int .i64 0, .int .i64 0, .int .i64 0, .int .i64 0, .int .i64 0, .int .i64 0, .string ⟨#[]⟩, .int .i64 0, .slice none 0 0] 30)) (w.heap.size + 1) u s k h n t := by
    have h0 := cb_new (w.alloc (.cells (rcs r A c) 30)) u s k h n t
    rw [show (w.alloc (.cells (rcs r A c) 30)).heap.size = w.heap.size + 1 by simp] at h0
    exact ((h0.old _).old _)
  have V0 : Ab ((((w.alloc (.cells (rcs r A c) 30)).alloc (.cells #[.int .i64 u, .int .i64 s, .int .i64 k, .int .i64 h, .int .i64 n, .string t] 25)).alloc (.cells #[.int .i64 q, .slice A' xs.length c'] 28)).alloc (.cells #[.int .i64 0, .int .i64 0, .int .i64 0, .int .i64 0, .int .i64 0, .int .i64 0, .int .i64 0, .int .i64 0, .int .i64 0, .int .i64 0, .string ⟨#[]⟩, .int .i64 0, .slice none 0 0] 30)) (w.heap.size + 1 + 1) q A' xs.length c' := by
    have h0 := ab_new ((w.alloc (.cells (rcs r A c) 30)).alloc (.cells #[.int .i64 u, .int .i64 s, .int .i64 k, .int .i64 h, .int .i64 n, .string t] 25)) q A' xs.length c'
    rw [show ((w.alloc (.cells (rcs r A c) 30)).alloc (.cells #[.int .i64 u, .int .i64 s, .int .i64 k, .int .i64 h, .int .i64 n, .string t] 25)).heap.size = w.heap.size + 1 + 1 by simp] at h0
    exact (h0.old _)
  have Z0 : Rx ((((w.alloc (.cells (rcs r A c) 30)).alloc (.cells #[.int .i64 u, .int .i64 s, .int .i64 k, .int .i64 h, .int .i64 n, .string t] 25)).alloc (.cells #[.int .i64 q, .slice A' xs.length c'] 28)).alloc (.cells #[.int .i64 0, .int .i64 0, .int .i64 0, .int .i64 0, .int .i64 0, .int .i64 0, .int .i64 0, .int .i64 0, .int .i64 0, .int .i64 0, .string ⟨#[]⟩, .int .i64 0, .slice none 0 0] 30)) (w.heap.size + 1 + 1 + 1) ⟨0, 0, 0, 0, 0, 0, 0, 0, 0, 0, ⟨#[]⟩, 0, []⟩ none 0 := by
    have h0 := zero_box (((w.alloc (.cells (rcs r A c) 30)).alloc (.cells #[.int .i64 u, .int .i64 s, .int .i64 k, .int .i64 h, .int .i64 n, .string t] 25)).alloc (.cells #[.int .i64 q, .slice A' xs.length c'] 28)) 
    rw [show (((w.alloc (.cells (rcs r A c) 30)).alloc (.cells #[.int .i64 u, .int .i64 s, .int .i64 k, .int .i64 h, .int .i64 n, .string t] 25)).alloc (.cells #[.int .i64 q, .slice A' xs.length c'] 28)).heap.size = w.heap.size + 1 + 1 + 1 by simp] at h0
    exact h0
  have B0 : Below w.heap.size w ((((w.alloc (.cells (rcs r A c) 30)).alloc (.cells #[.int .i64 u, .int .i64 s, .int .i64 k, .int .i64 h, .int .i64 n, .string t] 25)).alloc (.cells #[.int .i64 q, .slice A' xs.length c'] 28)).alloc (.cells #[.int .i64 0, .int .i64 0, .int .i64 0, .int .i64 0, .int .i64 0, .int .i64 0, .int .i64 0, .int .i64 0, .int .i64 0, .int .i64 0, .string ⟨#[]⟩, .int .i64 0, .slice none 0 0] 30)) := (((((Below.refl _ _).alloc (Nat.le_refl _) _).alloc (by first | (simp; done) | (simp; omega)) _).alloc (by first | (simp; done) | (simp; omega)) _).alloc (by first | (simp; done) | (simp; omega)) _)
  have S0 := hs.to B0 B0.size
  have h3' : (r.st != 3) = false := by simp [bne, h3]
  go_enter Tryd.func17, Tryd.ntmps17
  go_wp2_with fail
  generalize ((((w.alloc (.cells (rcs r A c) 30)).alloc (.cells #[.int .i64 u, .int .i64 s, .int .i64 k, .int .i64 h, .int .i64 n, .string t] 25)).alloc (.cells #[.int .i64 q, .slice A' xs.length c'] 28)).alloc (.cells #[.int .i64 0, .int .i64 0, .int .i64 0, .int .i64 0, .int .i64 0, .int .i64 0, .int .i64 0, .int .i64 0, .int .i64 0, .int .i64 0, .string ⟨#[]⟩, .int .i64 0, .slice none 0 0] 30)) = W0 at *
  refine (HO _ S0).out.mono ?_
  rintro e w2 ⟨A9, c9, rfl, f2, b2⟩
  clear HO S0 X0 C0 V0 hs hs' hl hl' h3'
  have Z8 := Z0.on b2 Z0.lt
  have zlt8 := Z0.lt
  have B8 := B0.trans (b2.mono B0.size)
  have Z9 := Z8.put r A9 c9
  have B9 := below_put B8 (B := w.heap.size + 1 + 1 + 1) (by omega) r A9 c9
  have F9 := f2.put (B := w.heap.size + 1 + 1 + 1) zlt8 r A9 c9
  have hq9 := B0.size
  have fz := Z8.free
  obtain ⟨z0, z1, z2, z3, z4, z5, z6, z7, z8, z9, z10, z11, z12⟩ := Z8.rb
  have fin := Lib.hid (And.intro Z9.rb (And.intro (F9.mono (D' := w.heap.size) hq9) B9))
  clear Z8 Z9 B8 B9 F9 b2 f2 zlt8 hq9 
  go_wp2
  exact bodyPost_ret (run_res_Commit (B := w.heap.size + 1 + 1 + 1) rfl fin.out.1) rfl ⟨A9, c9, rfl, fin.out.2.1, fin.out.2.2⟩

theorem Rx.drew {w : World} {B : Nat} {r : Rd} {A : Option Addr} {c : Nat} (h : Rx w B r A c) : Rx w.drew B r A c := h
theorem com_facts (r : Rd) (A A' : Option Addr) (c c' : Nat) (u s k h n : Int) (t : ByteArray) (q : Int) (xs : List Int) (w W0 : World) (hs' : At.Sl w w.heap.size .i64 A' xs) (X0 : Rx W0 w.heap.size r A c) (Z0 : Rx W0 (w.heap.size + 1 + 1 + 1) ⟨0, 0, 0, 0, 0, 0, 0, 0, 0, 0, ⟨#[]⟩, 0, []⟩ none 0) (B0 : Below w.heap.size w W0) :
    Hid (Rb (((((((((W0.setCell ⟨w.heap.size, 0, none⟩ (.int .i64 3)).setCell ⟨w.heap.size, 5, none⟩ (.int .i64 u)).setCell ⟨w.heap.size, 6, none⟩ (.int .i64 s)).setCell ⟨w.heap.size, 7, none⟩ (.int .i64 k)).setCell ⟨w.heap.size, 8, none⟩ (.int .i64 h)).setCell ⟨w.heap.size, 9, none⟩ (.int .i64 n)).setCell ⟨w.heap.size, 10, none⟩ (.string t)).setCell ⟨w.heap.size, 11, none⟩ (.int .i64 q)).setCell ⟨w.heap.size, 12, none⟩ (.slice A' xs.length c')).drew w.heap.size ⟨3, r.pn, r.pb, r.vn, r.vb, u, s, k, h, n, t, q, xs⟩ A' c' ∧ Rx (((((((((W0.setCell ⟨w.heap.size, 0, none⟩ (.int .i64 3)).setCell ⟨w.heap.size, 5, none⟩ (.int .i64 u)).setCell ⟨w.heap.size, 6, none⟩ (.int .i64 s)).setCell ⟨w.heap.size, 7, none⟩ (.int .i64 k)).setCell ⟨w.heap.size, 8, none⟩ (.int .i64 h)).setCell ⟨w.heap.size, 9, none⟩ (.int .i64 n)).setCell ⟨w.heap.size, 10, none⟩ (.string t)).setCell ⟨w.heap.size, 11, none⟩ (.int .i64 q)).setCell ⟨w.heap.size, 12, none⟩ (.slice A' xs.length c')).drew (w.heap.size + 1 + 1 + 1) ⟨0, 0, 0, 0, 0, 0, 0, 0, 0, 0, ⟨#[]⟩, 0, []⟩ none 0 ∧ Below w.heap.size w (((((((((W0.setCell ⟨w.heap.size, 0, none⟩ (.int .i64 3)).setCell ⟨w.heap.size, 5, none⟩ (.int .i64 u)).setCell ⟨w.heap.size, 6, none⟩ (.int .i64 s)).setCell ⟨w.heap.size, 7, none⟩ (.int .i64 k)).setCell ⟨w.heap.size, 8, none⟩ (.int .i64 h)).setCell ⟨w.heap.size, 9, none⟩ (.int .i64 n)).setCell ⟨w.heap.size, 10, none⟩ (.string t)).setCell ⟨w.heap.size, 11, none⟩ (.int .i64 q)).setCell ⟨w.heap.size, 12, none⟩ (.slice A' xs.length c')).drew ∧ At.Sl (((((((((W0.setCell ⟨w.heap.size, 0, none⟩ (.int .i64 3)).setCell ⟨w.heap.size, 5, none⟩ (.int .i64 u)).setCell ⟨w.heap.size, 6, none⟩ (.int .i64 s)).setCell ⟨w.heap.size, 7, none⟩ (.int .i64 k)).setCell ⟨w.heap.size, 8, none⟩ (.int .i64 h)).setCell ⟨w.heap.size, 9, none⟩ (.int .i64 n)).setCell ⟨w.heap.size, 10, none⟩ (.string t)).setCell ⟨w.heap.size, 11, none⟩ (.int .i64 q)).setCell ⟨w.heap.size, 12, none⟩ (.slice A' xs.length c')).drew (((((((((W0.setCell ⟨w.heap.size, 0, none⟩ (.int .i64 3)).setCell ⟨w.heap.size, 5, none⟩ (.int .i64 u)).setCell ⟨w.heap.size, 6, none⟩ (.int .i64 s)).setCell ⟨w.heap.size, 7, none⟩ (.int .i64 k)).setCell ⟨w.heap.size, 8, none⟩ (.int .i64 h)).setCell ⟨w.heap.size, 9, none⟩ (.int .i64 n)).setCell ⟨w.heap.size, 10, none⟩ (.string t)).setCell ⟨w.heap.size, 11, none⟩ (.int .i64 q)).setCell ⟨w.heap.size, 12, none⟩ (.slice A' xs.length c')).drew.heap.size .i64 A' xs) := by
  have XR : R13 W0 w.heap.size (.int .i64 r.st) (.int .i64 r.pn) (.int .i64 r.pb) (.int .i64 r.vn) (.int .i64 r.vb) (.int .i64 r.u) (.int .i64 r.s) (.int .i64 r.k) (.int .i64 r.h) (.int .i64 r.n) (.string r.t) (.int .i64 r.q) (.slice A r.xs.length c) := X0
  have hne : w.heap.size + 1 + 1 + 1 ≠ w.heap.size := by omega
  have x1 := XR.set0 (.int .i64 3)
  have x2 := x1.set5 (.int .i64 u)
  have x3 := x2.set6 (.int .i64 s)
  have x4 := x3.set7 (.int .i64 k)
  have x5 := x4.set8 (.int .i64 h)
  have x6 := x5.set9 (.int .i64 n)
  have x7 := x6.set10 (.string t)
  have x8 := x7.set11 (.int .i64 q)
  have x9 := x8.set12 (.slice A' xs.length c')
  have z1 := Z0.other (p := ⟨w.heap.size, 0, none⟩) hne (.int .i64 3)
  have z2 := z1.other (p := ⟨w.heap.size, 5, none⟩) hne (.int .i64 u)
  have z3 := z2.other (p := ⟨w.heap.size, 6, none⟩) hne (.int .i64 s)
  have z4 := z3.other (p := ⟨w.heap.size, 7, none⟩) hne (.int .i64 k)
  have z5 := z4.other (p := ⟨w.heap.size, 8, none⟩) hne (.int .i64 h)
  have z6 := z5.other (p := ⟨w.heap.size, 9, none⟩) hne (.int .i64 n)
  have z7 := z6.other (p := ⟨w.heap.size, 10, none⟩) hne (.string t)
  have z8 := z7.other (p := ⟨w.heap.size, 11, none⟩) hne (.int .i64 q)
  have z9 := z8.other (p := ⟨w.heap.size, 12, none⟩) hne (.slice A' xs.length c')
  have b1 := B0.setCell (p := ⟨w.heap.size, 0, none⟩) (Nat.le_refl _) (.int .i64 3)
  have b2 := b1.setCell (p := ⟨w.heap.size, 5, none⟩) (Nat.le_refl _) (.int .i64 u)
  have b3 := b2.setCell (p := ⟨w.heap.size, 6, none⟩) (Nat.le_refl _) (.int .i64 s)
  have b4 := b3.setCell (p := ⟨w.heap.size, 7, none⟩) (Nat.le_refl _) (.int .i64 k)
  have b5 := b4.setCell (p := ⟨w.heap.size, 8, none⟩) (Nat.le_refl _) (.int .i64 h)
  have b6 := b5.setCell (p := ⟨w.heap.size, 9, none⟩) (Nat.le_refl _) (.int .i64 n)
  have b7 := b6.setCell (p := ⟨w.heap.size, 10, none⟩) (Nat.le_refl _) (.string t)
  have b8 := b7.setCell (p := ⟨w.heap.size, 11, none⟩) (Nat.le_refl _) (.int .i64 q)
  have b9 := b8.setCell (p := ⟨w.heap.size, 12, none⟩) (Nat.le_refl _) (.slice A' xs.length c')
  generalize (((((((((W0.setCell ⟨w.heap.size, 0, none⟩ (.int .i64 3)).setCell ⟨w.heap.size, 5, none⟩ (.int .i64 u)).setCell ⟨w.heap.size, 6, none⟩ (.int .i64 s)).setCell ⟨w.heap.size, 7, none⟩ (.int .i64 k)).setCell ⟨w.heap.size, 8, none⟩ (.int .i64 h)).setCell ⟨w.heap.size, 9, none⟩ (.int .i64 n)).setCell ⟨w.heap.size, 10, none⟩ (.string t)).setCell ⟨w.heap.size, 11, none⟩ (.int .i64 q)).setCell ⟨w.heap.size, 12, none⟩ (.slice A' xs.length c')) = V at *
  have X9 : Rx V w.heap.size ⟨3, r.pn, r.pb, r.vn, r.vb, u, s, k, h, n, t, q, xs⟩ A' c' := x9
  exact ⟨X9.drew.rb, z9.drew, b9.drew, hs'.to b9.drew b9.drew.size⟩

set_option maxHeartbeats 8000000 in
theorem commit_go (r : Rd) (A A' : Option Addr) (c c' : Nat) (u s k h n : Int) (t : ByteArray) (q : Int) (xs : List Int) (w : World) (hs : At.Sl w w.heap.size .i64 A r.xs) (hs' : At.Sl w w.heap.size .i64 A' xs) (hl : r.xs.length ≤ 1000) (hl' : xs.length ≤ 1000) (h3 : (r.st == 3) = false) :
    Calls Tryd.prog 17 #[rv r A c, cv u s k h n t, av q A' xs.length c'] w (RecPost w ⟨3, r.pn, r.pb, r.vn, r.vb, u, s, k, h, n, t, q, xs⟩) := by
  have HO : ∀ W, At.Sl W W.heap.size .i64 A' xs → Hid (Calls Tryd.prog 36 #[.agg #[.int .i64 3, .int .i64 r.pn, .int .i64 r.pb, .int .i64 r.vn, .int .i64 r.vb, .int .i64 u, .int .i64 s, .int .i64 k, .int .i64 h, .int .i64 n, .string t, .int .i64 q, .slice A' xs.length c']] W (RecPost W ⟨3, r.pn, r.pb, r.vn, r.vb, u, s, k, h, n, t, q, xs⟩)) := fun W g => own_any ⟨3, r.pn, r.pb, r.vn, r.vb, u, s, k, h, n, t, q, xs⟩ A' c' W g hl'
  have X0 : Rx ((((w.alloc (.cells (rcs r A c) 30)).alloc (.cells #[.int .i64 u, .int .i64 s, .int .i64 k, .int .i64 h, .int .i64 n, .string t] 25)).alloc (.cells #[.int .i64 q, .slice A' xs.length c'] 28)).alloc (.cells #[.int .i64 0, .int .i64 0, .int .i64 0, .int .i64 0, .int .i64 0, .int .i64 0, .int .i64 0, .int .i64 0, .int .i64 0, .int .i64 0, .string ⟨#[]⟩, .int .i64 0, .slice none 0 0] 30)) (w.heap.size) r A c := by
    have h0 := rx_new w r A c
    exact (((h0.old _).old _).old _)
  have C0 : Cb ((((w.alloc (.cells (rcs r A c) 30)).alloc (.cells #[.int .i64 u, .int .i64 s, .int .i64 k, .int .i64 h, .int .i64 n, .string t] 25)).alloc (.cells #[.int .i64 q, .slice A' xs.length c'] 28)).alloc (.cells #[.int .i64 0, .int .i64 0, .int .i64 0, .int .i64 0, .int .i64 0, .int .i64 0, .int .i64 0, .int .i64 0, .int .i64 0, .int .i64 0, .string ⟨#[]⟩, .int .i64 0, .slice none 0 0] 30)) (w.heap.size + 1) u s k h n t := by
    have h0 := cb_new (w.alloc (.cells (rcs r A c) 30)) u s k h n t
    rw [show (w.alloc (.cells (rcs r A c) 30)).heap.size = w.heap.size + 1 by simp] at h0
    exact ((h0.old _).old _)
  have V0 : Ab ((((w.alloc (.cells (rcs r A c) 30)).alloc (.cells #[.int .i64 u, .int .i64 s, .int .i64 k, .int .i64 h, .int .i64 n, .string t] 25)).alloc (.cells #[.int .i64 q, .slice A' xs.length c'] 28)).alloc (.cells #[.int .i64 0, .int .i64 0, .int .i64 0, .int .i64 0, .int .i64 0, .int .i64 0, .int .i64 0, .int .i64 0, .int .i64 0, .int .i64 0, .string ⟨#[]⟩, .int .i64 0, .slice none 0 0] 30)) (w.heap.size + 1 + 1) q A' xs.length c' := by
    have h0 := ab_new ((w.alloc (.cells (rcs r A c) 30)).alloc (.cells #[.int .i64 u, .int .i64 s, .int .i64 k, .int .i64 h, .int .i64 n, .string t] 25)) q A' xs.length c'
    rw [show ((w.alloc (.cells (rcs r A c) 30)).alloc (.cells #[.int .i64 u, .int .i64 s, .int .i64 k, .int .i64 h, .int .i64 n, .string t] 25)).heap.size = w.heap.size + 1 + 1 by simp] at h0
    exact (h0.old _)
  have Z0 : Rx ((((w.alloc (.cells (rcs r A c) 30)).alloc (.cells #[.int .i64 u, .int .i64 s, .int .i64 k, .int .i64 h, .int .i64 n, .string t] 25)).alloc (.cells #[.int .i64 q, .slice A' xs.length c'] 28)).alloc (.cells #[.int .i64 0, .int .i64 0, .int .i64 0, .int .i64 0, .int .i64 0, .int .i64 0, .int .i64 0, .int .i64 0, .int .i64 0, .int .i64 0, .string ⟨#[]⟩, .int .i64 0, .slice none 0 0] 30)) (w.heap.size + 1 + 1 + 1) ⟨0, 0, 0, 0, 0, 0, 0, 0, 0, 0, ⟨#[]⟩, 0, []⟩ none 0 := by
    have h0 := zero_box (((w.alloc (.cells (rcs r A c) 30)).alloc (.cells #[.int .i64 u, .int .i64 s, .int .i64 k, .int .i64 h, .int .i64 n, .string t] 25)).alloc (.cells #[.int .i64 q, .slice A' xs.length c'] 28)) 
    rw [show (((w.alloc (.cells (rcs r A c) 30)).alloc (.cells #[.int .i64 u, .int .i64 s, .int .i64 k, .int .i64 h, .int .i64 n, .string t] 25)).alloc (.cells #[.int .i64 q, .slice A' xs.length c'] 28)).heap.size = w.heap.size + 1 + 1 + 1 by simp] at h0
    exact h0
  have B0 : Below w.heap.size w ((((w.alloc (.cells (rcs r A c) 30)).alloc (.cells #[.int .i64 u, .int .i64 s, .int .i64 k, .int .i64 h, .int .i64 n, .string t] 25)).alloc (.cells #[.int .i64 q, .slice A' xs.length c'] 28)).alloc (.cells #[.int .i64 0, .int .i64 0, .int .i64 0, .int .i64 0, .int .i64 0, .int .i64 0, .int .i64 0, .int .i64 0, .int .i64 0, .int .i64 0, .string ⟨#[]⟩, .int .i64 0, .slice none 0 0] 30)) := (((((Below.refl _ _).alloc (Nat.le_refl _) _).alloc (by first | (simp; done) | (simp; omega)) _).alloc (by first | (simp; done) | (simp; omega)) _).alloc (by first | (simp; done) | (simp; omega)) _)
  have S0 := hs'.to B0 B0.size
  have h3' : (r.st != 3) = true := by simp [bne, h3]
  go_enter Tryd.func17, Tryd.ntmps17
  go_wp2_with fail
  generalize ((((w.alloc (.cells (rcs r A c) 30)).alloc (.cells #[.int .i64 u, .int .i64 s, .int .i64 k, .int .i64 h, .int .i64 n, .string t] 25)).alloc (.cells #[.int .i64 q, .slice A' xs.length c'] 28)).alloc (.cells #[.int .i64 0, .int .i64 0, .int .i64 0, .int .i64 0, .int .i64 0, .int .i64 0, .int .i64 0, .int .i64 0, .int .i64 0, .int .i64 0, .string ⟨#[]⟩, .int .i64 0, .slice none 0 0] 30)) = W0 at *
  have HH := com_facts r A A' c c' u s k h n t q xs w W0 hs' X0 Z0 B0
  obtain ⟨p0, p1, p2, p3, p4, p5, p6, p7, p8, p9, p10, p11, p12⟩ := id X0.rb
  have fx := X0.free
  obtain ⟨d0, d1, d2, d3, d4, d5⟩ := id C0
  obtain ⟨g0, g1⟩ := id V0
  clear X0 C0 V0 Z0 S0 B0 hs hs' hl hl'
  go_region
  clear p0 p1 p2 p3 p4 p5 p6 p7 p8 p9 p10 p11 p12 fx d0 d1 d2 d3 d4 d5 g0 g1
  generalize (((((((((W0.setCell ⟨w.heap.size, 0, none⟩ (.int .i64 3)).setCell ⟨w.heap.size, 5, none⟩ (.int .i64 u)).setCell ⟨w.heap.size, 6, none⟩ (.int .i64 s)).setCell ⟨w.heap.size, 7, none⟩ (.int .i64 k)).setCell ⟨w.heap.size, 8, none⟩ (.int .i64 h)).setCell ⟨w.heap.size, 9, none⟩ (.int .i64 n)).setCell ⟨w.heap.size, 10, none⟩ (.string t)).setCell ⟨w.heap.size, 11, none⟩ (.int .i64 q)).setCell ⟨w.heap.size, 12, none⟩ (.slice A' xs.length c')).drew = W2 at *
  obtain ⟨⟨p0, p1, p2, p3, p4, p5, p6, p7, p8, p9, p10, p11, p12⟩, Z2, B2, S2⟩ := HH.out
  clear HH
  go_wp2_with fail
  refine (HO _ S2).out.mono ?_
  rintro e w2 ⟨A9, c9, rfl, f2, b2⟩
  clear HO S2 p0 p1 p2 p3 p4 p5 p6 p7 p8 p9 p10 p11 p12
  have Z8 := Z2.on b2 Z2.lt
  have zlt8 := Z2.lt
  have B8 := B2.trans (b2.mono B2.size)
  have Z9 := Z8.put ⟨3, r.pn, r.pb, r.vn, r.vb, u, s, k, h, n, t, q, xs⟩ A9 c9
  have B9 := below_put B8 (B := w.heap.size + 1 + 1 + 1) (by omega) ⟨3, r.pn, r.pb, r.vn, r.vb, u, s, k, h, n, t, q, xs⟩ A9 c9
  have F9 := f2.put (B := w.heap.size + 1 + 1 + 1) zlt8 ⟨3, r.pn, r.pb, r.vn, r.vb, u, s, k, h, n, t, q, xs⟩ A9 c9
  have hq9 := B2.size
  have fz := Z8.free
  obtain ⟨z0, z1, z2, z3, z4, z5, z6, z7, z8, z9, z10, z11, z12⟩ := Z8.rb
  have fin := Lib.hid (And.intro Z9.rb (And.intro (F9.mono (D' := w.heap.size) hq9) B9))
  clear Z8 Z9 B8 B9 F9 b2 f2 zlt8 hq9 
  go_wp2
  exact bodyPost_ret (run_res_Commit (B := w.heap.size + 1 + 1 + 1) rfl fin.out.1) rfl ⟨A9, c9, rfl, fin.out.2.1, fin.out.2.2⟩

theorem commit_any (r : Rd) (A A' : Option Addr) (c c' : Nat) (u s k h n : Int) (t : ByteArray) (q : Int) (xs : List Int) (w : World) (hs : At.Sl w w.heap.size .i64 A r.xs) (hs' : At.Sl w w.heap.size .i64 A' xs) (hl : r.xs.length ≤ 1000) (hl' : xs.length ≤ 1000) :
    Calls Tryd.prog 17 #[rv r A c, cv u s k h n t, av q A' xs.length c'] w (RecPost w (co r u s k h n t q xs)) := by
  rcases h3 : (r.st == 3) with _ | _
  · rw [co, h3]; exact commit_go r A A' c c' u s k h n t q xs w hs hs' hl hl' h3
  · rw [co, h3]; exact commit_stay r A A' c c' u s k h n t q xs w hs hs' hl hl' h3

end Go.Proofs.YtdeaaeejkpghaaaDoor.In
