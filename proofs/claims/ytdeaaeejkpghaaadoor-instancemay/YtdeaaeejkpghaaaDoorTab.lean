/-
  How the table of what kinds need is read off what its initialiser lays. No program's function is walked here. Conditions: that the table reads as its initialiser lays it.
-/
import Derived.Test.YtdeaaeejkpghaaaDoorMay
import Derived.Test.YtdeaaeejkpghaaaDoorRows
import Derived.LaidMore
import Derived.Lib.SmallJoins
import Derived.Stop.Joined
import Derived.OpenShut
import Derived.ShutString
import Derived.ChangeOld
import Derived.Deep.Slices
namespace Go.Proofs.YtdeaaeejkpghaaaDoor
open Go.RowKit Go.Deep Go.ChangeShapes Go.WideShapes Go.ChangeAt Go.Joins

theorem laidOut : laidOutB Tryd.prog = true := by kernel_rfl
abbrev laid4 {H : Type} : List (String × DataW H) := [("colloquy/command.needs", Rows.laid_colloquy_command_needs)]

theorem own : ownKnob Tryd.prog.godebug = none := by kernel_rfl
theorem gNeeds : Tryd.prog.globalNamed "colloquy/command.needs" = some 0 := by kernel_rfl
theorem tNeeds : (Tryd.prog.globals[0]?).map (·.type) = some 59 := by kernel_rfl

theorem door_met (os : Os) (args : Array Value) : laidMetH Tryd.prog laid4 ((World.doorLaid Tryd.prog 18 os).forCall (fun _ _ => 0) ⟨#[], args, []⟩).memory :=
  laidMetH_of_parts3 (fuel := 8) (laidMet_of_run' 8 (by kernel_rfl) (by kernel_rfl)) (by kernel_rfl) (by kernel_rfl)

theorem list_cell {α : Type} {l : List α} {a o : Nat} {v : α} (ho : o < 2) (h : ((((l.drop a).take 2).drop o).take 1) = [v]) : l[a + o]? = some v := by
  have := congrArg (fun x : List α => x[0]?) h
  simp only [List.getElem?_take, List.getElem?_drop, Nat.add_zero] at this
  rw [if_pos (by omega), if_pos ho] at this
  simpa using this

theorem needs_at {H : Type} (k : Nat) (hk : k < 8) : ([.agg [.lit (.bool false), .lit (.bool false)], .agg [.lit (.bool false), .lit (.bool false)], .agg [.lit (.bool false), .lit (.bool false)], .agg [.lit (.bool false), .lit (.bool false)], .agg [.lit (.bool false), .lit (.bool true)], .agg [.lit (.bool true), .lit (.bool true)], .agg [.lit (.bool true), .lit (.bool false)], .agg [.lit (.bool true), .lit (.bool false)]] : List (DataW H))[k]? = some (.agg [.lit (.bool (ndN k)), .lit (.bool (ndT k))]) := by
  match k, hk with
  | 0, _ => rfl
  | 1, _ => rfl
  | 2, _ => rfl
  | 3, _ => rfl
  | 4, _ => rfl
  | 5, _ => rfl
  | 6, _ => rfl
  | 7, _ => rfl

theorem nd_of_laid {W : World} (h : laidMetH Tryd.prog laid4 W) : Nd W := by
  rw [MakeChecks.laidMetH_plain _ _ _ (by kernel_rfl)] at h
  obtain ⟨ps, ⟨g0, t0, cs0, f0, p0, q0, hg0, ht0, hv0, hd0, _, _⟩, _, _⟩ := h
  obtain rfl := Option.some.inj (gNeeds.symm.trans hg0)
  obtain rfl := Option.some.inj (tNeeds.symm.trans ht0)
  obtain ⟨xs, m, _, hx, _, hn8, hel⟩ := DataW.trod_array Tryd.underlying59 hd0
  simp only [Prod.mk.injEq] at hx
  have hx1 := hx.1
  unfold Rows.laid_colloquy_command_needs at hx1
  simp only [DataW.agg.injEq] at hx1
  have c41 : Tryd.prog.cellsOf 58 = 2 := by kernel_rfl
  have c4 : Tryd.prog.cellsOf 4 = 1 := by kernel_rfl
  intro k hk
  have hk' : k < xs.length := by omega
  have e := hel k hk
  rw [c41, List.getElem?_eq_getElem hk'] at e
  obtain ⟨y0, y1, n, hy, _, e0, e1⟩ := trod_struct2 Tryd.underlying58 e
  simp only [c4] at e0 e1
  obtain ⟨b0, l0, z0⟩ := DataW.trod_bool Tryd.underlying4 e0
  obtain ⟨b1, l1, z1⟩ := DataW.trod_bool Tryd.underlying4 e1
  have hd := needs_at (H := Unit) k hk
  rw [hx1, List.getElem?_map, List.getElem?_eq_getElem hk', Option.map_some, hy, z0, z1] at hd
  simp at hd
  obtain ⟨rfl, rfl⟩ := hd
  have k0 := list_cell (by decide) l0
  have k1 := list_cell (by decide) l1
  refine ⟨?_, ?_⟩
  · rw [World.var?_cell hg0 hv0]; simpa using k0
  · rw [World.var?_cell hg0 hv0]; simpa using k1


end Go.Proofs.YtdeaaeejkpghaaaDoor
