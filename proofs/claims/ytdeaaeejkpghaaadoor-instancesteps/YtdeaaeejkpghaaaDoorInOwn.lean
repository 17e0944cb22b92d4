/-
  The walks of Clone (of a slice of ints) and of own: a record with deps of its own. Conditions: at most 1000 deps.
-/
import Derived.Test.YtdeaaeejkpghaaaDoorInMem
namespace Go.Proofs.YtdeaaeejkpghaaaDoor.In
open Go.RowKit
set_option linter.unusedVariables false

theorem nil_yes (n c : Nat) (w : World) : (binOp .eql 26 (.slice none n c) (.slice none 0 0)).run Tryd.prog w = .ok (.bool true) w := by kernel_rfl
theorem nil_no (ad : Addr) (n c : Nat) (w : World) : (binOp .eql 26 (.slice (some ad) n c) (.slice none 0 0)).run Tryd.prog w = .ok (.bool false) w := by kernel_rfl
attribute [local go_sem ↓ high] nil_yes nil_no

theorem clone_any (A : Option Addr) (c : Nat) (xs : List Int) (w : World) (hs : At.Sl w w.heap.size .i64 A xs) (hl : xs.length ≤ 1000) :
    Calls Tryd.prog 48 #[.slice A xs.length c] w fun e w' => ∃ A' c', e = .returned (.slice A' xs.length c') ∧ Fr w.heap.size w' A' xs ∧ Below w.heap.size w w' := by
  rcases A with _ | ad
  · have hn : xs = [] := by
      rcases hs with h | ⟨b, off, h, _⟩
      · exact h
      · cases h
    subst hn
    go_enter Tryd.func48, Tryd.ntmps48
    go_wp2
    go_ret
    exact ⟨none, 0, rfl, .inl rfl, Below.refl _ _⟩
  · obtain ⟨i0, hi, hz0, hz1, hz2⟩ : ∃ i, Tryd.prog.info? 3 = some i ∧ i.zero = some (.int .i64 0) ∧ i.size = 1 ∧ i.bytes = 8 := by
      have := info3
      rcases h : Tryd.prog.info? 3 with _ | i
      · rw [h] at this; cases this
      · rw [h] at this; simp at this; exact ⟨i, rfl, this.1, this.2.1, this.2.2⟩
    have own0 : (w.alloc (.cells #[] 3)).ownsRow w.heap.size 3 1 (.slice (some ⟨w.heap.size, 0, none⟩) 0 0) 0 [] := World.ownsRow_lit w #[] 0 (Nat.le_refl _) (by unfold maxLen; omega) rfl
    have B0 : Below w.heap.size w (w.alloc (.cells #[] 3)) := (Below.refl _ _).alloc (Nat.le_refl _) _
    have S0 := hs.to B0 B0.size
    have HL := Lib.hid hl
    clear hl
    go_enter Tryd.func48, Tryd.ntmps48
    go_wp2_with (at_builtin; refine wpList_app rfl (.tmp 5) (.tmp 6) 26 rfl w.heap.size 3 i0 (.int .i64 0) 8 Tryd.underlying26 hi hz0 hz1 hz2 rfl _ 0 [] rfl own0 _ ad c xs rfl S0 (by have := HL.out; unfold maxLen; omega) (by have := HL.out; omega) B0.size ?_; intro v6 w6 own6 grow6)
    go_ret
    have own7 : w6.ownsRow w.heap.size 3 1 v6 xs.length (xs.map (Value.int .i64)) := by simpa using own6
    obtain ⟨A7, c7, rfl, f7⟩ := own_fr own7
    exact ⟨A7, c7, rfl, f7, B0.grown grow6 B0.size (fun q hq => by have := (own0.lt q hq).1; omega)⟩

theorem run_res_own {V : World} {tm : Array Value} {B : Nat} {r : Rd} {A : Option Addr} {c : Nat} (h2 : tm[2]?.getD undef = .pointer (some ⟨B, 0, none⟩)) (hb : Rb V B r A c) :
    (results Tryd.f36 tm).run Tryd.prog V = .ok (rv r A c) V := by
  obtain ⟨c0, c1, c2, c3, c4, c5, c6, c7, c8, c9, c10, c11, c12⟩ := hb
  simp [results, Tryd.results36, h2, go_sem, c0, c1, c2, c3, c4, c5, c6, c7, c8, c9, c10, c11, c12]

set_option maxHeartbeats 1000000 in
theorem own_any (r : Rd) (A : Option Addr) (c : Nat) (w : World) (hs : At.Sl w w.heap.size .i64 A r.xs) (hl : r.xs.length ≤ 1000) : Calls Tryd.prog 36 #[rv r A c] w (RecPost w r) := by
  have HC : ∀ W, At.Sl W W.heap.size .i64 A r.xs → Hid (Calls Tryd.prog 48 #[.slice A r.xs.length c] W fun e w' => ∃ A' c', e = .returned (.slice A' r.xs.length c') ∧ Fr W.heap.size w' A' r.xs ∧ Below W.heap.size W w') := fun W h => clone_any A c r.xs W h hl
  have X0 := (rx_new w r A c).old (.cells #[.int .i64 0, .int .i64 0, .int .i64 0, .int .i64 0, .int .i64 0, .int .i64 0, .int .i64 0, .int .i64 0, .int .i64 0, .int .i64 0, .string ⟨#[]⟩, .int .i64 0, .slice none 0 0] 30)
  have B0 : Below w.heap.size w ((w.alloc (.cells (rcs r A c) 30)).alloc (.cells #[.int .i64 0, .int .i64 0, .int .i64 0, .int .i64 0, .int .i64 0, .int .i64 0, .int .i64 0, .int .i64 0, .int .i64 0, .int .i64 0, .string ⟨#[]⟩, .int .i64 0, .slice none 0 0] 30)) := ((Below.refl _ _).alloc (Nat.le_refl _) _).alloc (by simp) _
  have S0 := hs.to B0 B0.size
  have Z0 := zero_box (w.alloc (.cells (rcs r A c) 30))
  have e0 : (w.alloc (.cells (rcs r A c) 30)).heap.size = w.heap.size + 1 := by simp
  rw [e0] at Z0
  go_enter Tryd.func36, Tryd.ntmps36
  go_wp2_with fail
  generalize ((w.alloc (.cells (rcs r A c) 30)).alloc (.cells #[.int .i64 0, .int .i64 0, .int .i64 0, .int .i64 0, .int .i64 0, .int .i64 0, .int .i64 0, .int .i64 0, .int .i64 0, .int .i64 0, .string ⟨#[]⟩, .int .i64 0, .slice none 0 0] 30)) = W0 at *
  refine (HC _ S0).out.mono ?_
  rintro e w1 ⟨A1, c1, rfl, f1, b1⟩
  have zlt := Z0.lt
  have X1 := X0.on b1 X0.lt
  have Z1 := Z0.on b1 Z0.lt
  have B1 := B0.trans (b1.mono B0.size)
  have X2 := X1.deps A1 c1
  have Z2 := Z1.other (p := ⟨w.heap.size, 12, none⟩) (by show w.heap.size + 1 ≠ w.heap.size; omega) (.slice A1 r.xs.length c1)
  have B2 := B1.setCell (p := ⟨w.heap.size, 12, none⟩) (Nat.le_refl _) (.slice A1 r.xs.length c1)
  have F2 := f1.set (p := ⟨w.heap.size, 12, none⟩) (by show w.heap.size < W0.heap.size; omega) (.slice A1 r.xs.length c1)
  have Z3 := Z2.put r A1 c1
  have B3 := below_put B2 (Nat.le_succ _) r A1 c1
  have F3 := F2.put (by omega) r A1 c1
  have fx := X1.free 12
  obtain ⟨p0, p1, p2, p3, p4, p5, p6, p7, p8, p9, p10, p11, p12⟩ := X1.rb
  have fz := Z1.free
  obtain ⟨z0, z1, z2, z3, z4, z5, z6, z7, z8, z9, z10, z11, z12⟩ := Z1.rb
  have fin := Lib.hid (And.intro Z3.rb (And.intro (F3.mono (D' := w.heap.size) (by omega)) B3))
  clear X0 Z0 S0 B0 HC hs hl X1 Z1 B1 X2 Z2 B2 F2 f1 b1 e0 Z3 F3 B3
  go_wp2
  exact bodyPost_ret (run_res_own (B := w.heap.size + 1) rfl fin.out.1) rfl ⟨A1, c1, rfl, fin.out.2.1, fin.out.2.2⟩

end Go.Proofs.YtdeaaeejkpghaaaDoor.In
