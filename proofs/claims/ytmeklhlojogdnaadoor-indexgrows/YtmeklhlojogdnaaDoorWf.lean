/-
  The walks of index.waitFor (one more instance is waited for) and of Len. Conditions: the instance is of one of those that there are, and its number is one that an int holds.
-/
import Derived.Test.YtmeklhlojogdnaaDoorSmi
import Derived.Deep.RegionHeld3
import Derived.Deep.DrawnRows
import Derived.Deep.QuietTactic
import Derived.BigQuiet
import Derived.BigRegion
namespace Go.Proofs.YtmeklhlojogdnaaDoor
open Go.RowKit
set_option linter.unusedVariables false

theorem Off.cell {O : Nat → Prop} {a w : World} (h : Off O a w) {p : Addr} (hp : O p.block) (u : Value) : Off O a (w.setCell p u) :=
  ⟨h.os, h.tape, h.output, by simpa using h.size, fun k hk hn => (Below.heap_setCell w p u k (fun e => hn (by rw [e]; exact hp))).trans (h.block k hk hn)⟩

def WtPost (w : World) (P g N : Nat) (s : Int) (ds : List Int) (e : Ending) (w' : World) : Prop := e = .returned (.tuple #[]) ∧ At.Ax w' P s (some ⟨g, 0, none⟩) N N ∧ At.Rx w' g ds ∧ Off (fun r => r = P ∨ r = g) w w'

set_option maxHeartbeats 1000000 in
theorem wait_core (P g N j : Nat) (s b q m y : Int) (ds : List Int) (w : World) (hP : At.Ax w P s (some ⟨g, 0, none⟩) N N) (hR : At.Rx w g ds) (hl : ds.length = N) (hne : P ≠ g) (hj : j < N) (hN : N ≤ 1000) (hy : ds.getD j 0 = y)
    (hm : min q 9223372036854775806 = m) (hm1 : -9223372036854775808 ≤ m) (hm2 : m ≤ 9223372036854775806) :
    Calls Tryd.prog 25 #[.pointer (some ⟨P, 0, none⟩), .agg #[.int .i64 ((j : Int) + 1), .int .i64 b], .int .i64 q] w (WtPost w P g N (max s (m + 1)) (ds.set j (max y b))) := by
  have hPl := hP.lt
  have hgl := hR.lt
  have hmw : m + 1 ≤ 9223372036854775807 := by omega
  have hmw2 : -9223372036854775808 ≤ m + 1 := by omega
  obtain ⟨p0, p1⟩ := hP.rb
  have f0 := hP.free 0
  have hPB : P ≠ w.heap.size := by omega
  go_enter Tryd.func25, Tryd.ntmps25
  go_wp2_with fail
  generalize hS : max s (m + 1) = s' at *
  have P1 : At.Ax ((w.setCell ⟨P, 0, none⟩ (.int .i64 s')).alloc (.cells #[.int .i64 ((j : Int) + 1), .int .i64 b] 26)) P s' (some ⟨g, 0, none⟩) N N := (hP.set0 _).old _
  have R1 : At.Rx ((w.setCell ⟨P, 0, none⟩ (.int .i64 s')).alloc (.cells #[.int .i64 ((j : Int) + 1), .int .i64 b] 26)) g ds := (hR.other (fun e => hne e.symm) _).old _
  have I1 : At.Ib ((w.setCell ⟨P, 0, none⟩ (.int .i64 s')).alloc (.cells #[.int .i64 ((j : Int) + 1), .int .i64 b] 26)) w.heap.size ((j : Int) + 1) b := by
    have := At.ib_new (w.setCell ⟨P, 0, none⟩ (.int .i64 s')) ((j : Int) + 1) b
    rwa [show (w.setCell ⟨P, 0, none⟩ (.int .i64 s')).heap.size = w.heap.size by simp] at this
  have O1 : Off (fun r => r = P ∨ r = g) w ((w.setCell ⟨P, 0, none⟩ (.int .i64 s')).alloc (.cells #[.int .i64 ((j : Int) + 1), .int .i64 b] 26)) := ((Off.refl _ _).cell (.inl rfl) _).alloc _
  generalize ((w.setCell ⟨P, 0, none⟩ (.int .i64 s')).alloc (.cells #[.int .i64 ((j : Int) + 1), .int .i64 b] 26)) = W1 at *
  clear hS p0 p1 f0 hP hR hm hmw hmw2 hm1 hm2
  obtain ⟨p0, p1⟩ := P1.rb
  obtain ⟨i0, i1⟩ := I1
  have hjd : j < ds.length := by omega
  have ry := R1.cell hjd
  rw [hy] at ry
  have fy := R1.free j
  have hji : (j : Int) < (N : Int) := by omega
  have hj0 : (0 : Int) ≤ (j : Int) := by omega
  have hsub : IntKind.i64.wrap ((j : Int) + 1 - 1) = (j : Int) := by rw [show (j : Int) + 1 - 1 = (j : Int) by omega]; exact IntWalk.i64_in _ (by omega)
  go_region
  have P2 : At.Ax (W1.setCell ⟨g, j, none⟩ (.int .i64 (max y b))).drew P s' (some ⟨g, 0, none⟩) N N := P1.other hne _
  have R2 : At.Rx (W1.setCell ⟨g, j, none⟩ (.int .i64 (max y b))).drew g (ds.set j (max y b)) := R1.set j _
  have O2 : Off (fun r => r = P ∨ r = g) w (W1.setCell ⟨g, j, none⟩ (.int .i64 (max y b))).drew := (O1.cell (.inr rfl) _).drew
  generalize (W1.setCell ⟨g, j, none⟩ (.int .i64 (max y b))).drew = W2 at *
  go_wp2
  go_end0
  exact ⟨rfl, P2, R2, O2⟩

theorem wait_any (P g N : Nat) (s q : Int) (i : Int × Int) (ds : List Int) (w : World) (hP : At.Ax w P s (some ⟨g, 0, none⟩) N N) (hR : At.Rx w g ds) (hl : ds.length = N) (hne : P ≠ g) (h1 : 1 ≤ i.1) (h2 : i.1 ≤ (N : Int)) (hN : N ≤ 1000) (hq : -9223372036854775808 ≤ q) :
    Calls Tryd.prog 25 #[.pointer (some ⟨P, 0, none⟩), iv i, .int .i64 q] w (WtPost w P g N (max s (sn q)) (ds.set (i.1 - 1).toNat (max (ds.getD (i.1 - 1).toNat 0) i.2))) := by
  obtain ⟨a, b⟩ := i
  have := wait_core P g N (a - 1).toNat s b q (min q 9223372036854775806) _ ds w hP hR hl hne (by simp only at h1 h2; omega) hN rfl rfl (by omega) (by omega)
  rw [show (((a - 1).toNat : Nat) : Int) + 1 = a by simp only at h1; omega] at this
  exact this

/-- How many are known. -/
theorem len_any (X : Nat) (n : Int) (L : List Kn) (O : Nat → Prop) (w : World) (h : Ix w X n L O) : Calls Tryd.prog 17 #[.pointer (some ⟨X, 0, none⟩)] w fun e w' => e = .returned (.int .i64 (L.length : Int)) ∧ w' = w := by
  obtain ⟨wf, own, lt, kb, tb, hx, hm⟩ := h
  have p1 := hx.c1
  rcases hm with ⟨rfl, rfl, rfl⟩ | ⟨K, T, g, rfl, rfl, _, _, _, hk, _, _⟩
  · have HL : (Builtin.len_ #[52] 3 #[.map none]).run Tryd.prog w = .ok (.int .i64 0) w := Maps.len_nil (k := 26) (e := 57) Tryd.underlying52 3
    go_enter Tryd.func17, Tryd.ntmps17
    go_wp2
    go_ret
    exact ⟨rfl, rfl⟩
  · obtain ⟨fk, hmo, _⟩ := hk
    have HL : (Builtin.len_ #[52] 3 #[.map (some K)]).run Tryd.prog w = .ok (.int .i64 (L.length : Int)) w := hmo.len (e := 57) Tryd.underlying52 3 K w rfl
    go_enter Tryd.func17, Tryd.ntmps17
    go_wp2
    go_ret
    exact ⟨rfl, rfl⟩
end Go.Proofs.YtmeklhlojogdnaaDoor
