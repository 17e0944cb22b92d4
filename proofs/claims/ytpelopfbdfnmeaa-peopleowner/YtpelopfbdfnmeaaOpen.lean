/-
  How a channel and a slice of integers that came in are read. No conditions.
-/
import Derived.Test.YtpelopfbdfnmeaaJo
import Derived.Lib.SmallJoins
import Derived.OpenShut
import Derived.ShutString
import Derived.ChangeOld
namespace Go.Proofs.Ytpelopfbdfnmeaa
open Go.RowKit Go.ChangeShapes Go.WideShapes Go.ChangeAt Go.Joins Go.Deep

theorem int_of {n : Int} (h : (Lit.int .i64 n).wf = true) : -9223372036854775808 ≤ n ∧ n ≤ 9223372036854775807 := by
  have := bounds_i64 h
  omega
/-- The call gave a channel and an error's number; its parts told one by one. -/
def ChPo (w : World) (i o : Int) (l : List Int) (n : Int) (e : Ending) (w' : World) : Prop := ∃ A c, e = .returned (.tuple #[.agg #[.int .i64 i, .int .i64 o, .slice A l.length c], .int .i64 n]) ∧ l.length ≤ c ∧ Fr w' w.heap.size A l ∧ Below w.heap.size w w'
theorem cho {f : Nat} {args : Array Value} {w : World} {r : Ch × Nat} (h : Calls Try.prog f args w (ChPost w r)) : Hid (Calls Try.prog f args w (ChPo w r.1.id r.1.ow r.1.l (r.2 : Int))) := h
theorem cho' {f : Nat} {args : Array Value} {w : World} {r : Ch × Nat} {i o : Int} {l : List Int} {n : Int} {m : Nat} (h : Calls Try.prog f args w (ChPost w r)) (hr : r = (⟨i, o, l⟩, m)) (hn : n = (m : Int)) : Hid (Calls Try.prog f args w (ChPo w i o l n)) := by
  subst hr
  subst hn
  exact h
section
variable {H : Type} {enc : TypeId × Value → H} {W : World}
theorem open_sl {fuel : Nat} {v : Value} {x : DataW H × List MemPlace} (h : DataW.trod enc Try.prog W 0 (fun _ => true) true fuel 22 [v] = some x) :
    ∃ (A : Option Addr) (c : Nat) (xs : List Int), v = .slice A xs.length c ∧ Sl W W.heap.size .i64 A xs ∧ xs.length ≤ c := by
  rcases open_ints Try.underlying22 Try.underlying3 (by kernel_rfl) h with ⟨hcs, _⟩ | ⟨a, l, c, zs, hcs, _, hl, hm, hz, _, hcell, hwz⟩
  · simp at hcs
    subst hcs
    exact ⟨none, 0, [], rfl, Sl.nil, Nat.le_refl _⟩
  · simp at hcs
    subst hcs
    have hz' : zs.length = c := by simpa using hz
    have e : (zs.take l).length = l := by simp only [List.length_take]; omega
    exact ⟨some a, c, zs.take l, by rw [e], sl_of_cells hl hz' hcell, by rw [e]; exact hl⟩
theorem open_ch {r : Reach} {b0 : Nat} {v : Value} {d : DataW H} {p : List MemPlace} (hv : Value.okWide Try.prog W r b0 24 v) (h : DataW.Trod enc Try.prog W 0 (fun _ => true) true 24 v d p) :
    ∃ (a o : Int) (A : Option Addr) (c : Nat) (l : List Int), v = .agg #[.int .i64 a, .int .i64 o, .slice A l.length c] ∧ Sl W W.heap.size .i64 A l ∧ l.length ≤ c := by
  obtain ⟨v0, v1, v2, y0, y1, y2, n, rfl, _, _, h0, h1, h2⟩ := open_agg3 Try.underlying24 (by kernel_rfl) (by kernel_rfl) hv h
  obtain ⟨k, hk, _, hw⟩ := DataW.trod_int Try.underlying3 h0
  obtain ⟨j, hj, _, hw'⟩ := DataW.trod_int Try.underlying3 h1
  obtain ⟨A, c, l, rfl, hs, hc⟩ := open_sl h2
  simp at hk hj
  subst hk hj
  exact ⟨k, j, A, c, l, rfl, hs, hc⟩
theorem open_row {r : Reach} {b0 : Nat} {v : Value} {d : DataW H} {p : List MemPlace} (hv : Value.okWide Try.prog W r b0 22 v) (h : DataW.Trod enc Try.prog W 0 (fun _ => true) true 22 v d p) :
    ∃ (A : Option Addr) (c : Nat) (l : List Int), v = .slice A l.length c ∧ Sl W W.heap.size .i64 A l ∧ l.length ≤ c := by
  obtain ⟨A, len, c, rfl⟩ := okWide_slice Try.underlying22 hv
  obtain ⟨fuel, hf⟩ := h
  obtain ⟨A', c', l, hv', hs, hc⟩ := open_sl (by simpa [Value.cells] using hf)
  cases hv'
  exact ⟨A, c, l, rfl, hs, hc⟩
end
end Go.Proofs.Ytpelopfbdfnmeaa
