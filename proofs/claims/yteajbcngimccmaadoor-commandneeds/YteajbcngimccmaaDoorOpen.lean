/-
  How the table of what kinds need is read off what its initialiser lays; how a command that came in is read; the walk of the statements' own first step ('awake'). Conditions: that the table reads as its initialiser lays it.
-/
import Derived.Test.YteajbcngimccmaaDoorPut4
import Derived.LaidMore
import Derived.Lib.SmallJoins
import Derived.Stop.Joined
import Derived.OpenShut
import Derived.ShutString
import Derived.ChangeOld
namespace Go.Proofs.YteajbcngimccmaaDoor
open Go.RowKit Go.ChangeShapes Go.WideShapes Go.ChangeAt Go.Joins

abbrev laid4 {H : Type} : List (String × DataW H) := [("colloquy/command.needs", Rows.laid_colloquy_command_needs)]

theorem own : ownKnob Tryd.prog.godebug = none := by kernel_rfl
theorem laidOut : laidOutB Tryd.prog = true := by kernel_rfl
theorem gNeeds : Tryd.prog.globalNamed "colloquy/command.needs" = some 0 := by kernel_rfl
theorem tNeeds : (Tryd.prog.globals[0]?).map (·.type) = some 42 := by kernel_rfl

theorem door_met (os : Os) (args : Array Value) : laidMetH Tryd.prog laid4 ((World.doorLaid Tryd.prog 18 os).forCall (fun _ _ => 0) ⟨#[], args, []⟩).memory :=
  laidMetH_of_parts3 (fuel := 8) (laidMet_of_run' 8 (by kernel_rfl) (by kernel_rfl)) (by kernel_rfl) (by kernel_rfl)

theorem list_cell {α : Type} {l : List α} {a o : Nat} {v : α} (ho : o < 2) (h : ((((l.drop a).take 2).drop o).take 1) = [v]) : l[a + o]? = some v := by
  have := congrArg (fun x : List α => x[0]?) h
  simp only [List.getElem?_take, List.getElem?_drop, Nat.add_zero] at this
  rw [if_pos (by omega), if_pos ho] at this
  simpa using this

theorem needs_at {H : Type} (k : Nat) (hk : k < 8) : ([.agg [.lit (.bool false), .lit (.bool false)], .agg [.lit (.bool false), .lit (.bool false)], .agg [.lit (.bool false), .lit (.bool false)], .agg [.lit (.bool false), .lit (.bool false)], .agg [.lit (.bool false), .lit (.bool true)], .agg [.lit (.bool true), .lit (.bool true)], .agg [.lit (.bool true), .lit (.bool false)], .agg [.lit (.bool true), .lit (.bool false)]] : List (DataW H))[k]? = some (.agg [.lit (.bool (ndN k)), .lit (.bool (ndT k))]) := by
  match k, hk with
  | 0, _ => rfl
  | 1, _ => rfl
  | 2, _ => rfl
  | 3, _ => rfl
  | 4, _ => rfl
  | 5, _ => rfl
  | 6, _ => rfl
  | 7, _ => rfl

theorem nd_of_laid {W : World} (h : laidMetH Tryd.prog laid4 W) : Nd W := by
  rw [MakeChecks.laidMetH_plain _ _ _ (by kernel_rfl)] at h
  obtain ⟨ps, ⟨g0, t0, cs0, f0, p0, q0, hg0, ht0, hv0, hd0, _, _⟩, _, _⟩ := h
  obtain rfl := Option.some.inj (gNeeds.symm.trans hg0)
  obtain rfl := Option.some.inj (tNeeds.symm.trans ht0)
  obtain ⟨xs, m, _, hx, _, hn8, hel⟩ := DataW.trod_array Tryd.underlying42 hd0
  simp only [Prod.mk.injEq] at hx
  have hx1 := hx.1
  unfold Rows.laid_colloquy_command_needs at hx1
  simp only [DataW.agg.injEq] at hx1
  have c41 : Tryd.prog.cellsOf 41 = 2 := by kernel_rfl
  have c4 : Tryd.prog.cellsOf 4 = 1 := by kernel_rfl
  intro k hk
  have hk' : k < xs.length := by omega
  have e := hel k hk
  rw [c41, List.getElem?_eq_getElem hk'] at e
  obtain ⟨y0, y1, n, hy, _, e0, e1⟩ := trod_struct2 Tryd.underlying41 e
  simp only [c4] at e0 e1
  obtain ⟨b0, l0, z0⟩ := DataW.trod_bool Tryd.underlying4 e0
  obtain ⟨b1, l1, z1⟩ := DataW.trod_bool Tryd.underlying4 e1
  have hd := needs_at (H := Unit) k hk
  rw [hx1, List.getElem?_map, List.getElem?_eq_getElem hk', Option.map_some, hy, z0, z1] at hd
  simp at hd
  obtain ⟨rfl, rfl⟩ := hd
  have k0 := list_cell (by decide) l0
  have k1 := list_cell (by decide) l1
  refine ⟨?_, ?_⟩
  · rw [World.var?_cell hg0 hv0]; simpa using k0
  · rw [World.var?_cell hg0 hv0]; simpa using k1

theorem array6 {α : Type} {cs : Array α} (h : cs.size = 6) : ∃ c0 c1 c2 c3 c4 c5, cs = #[c0, c1, c2, c3, c4, c5] := by
  obtain ⟨l⟩ := cs
  match l, h with
  | [c0, c1, c2, c3, c4, c5], _ => exact ⟨c0, c1, c2, c3, c4, c5, rfl⟩

theorem open_cmd {H : Type} {enc : TypeId × Value → H} {W : World} {r : Reach} {b0 : Nat} {v : Value} {d : DataW H} {p : List MemPlace} (hv : Value.okWide Tryd.prog W r b0 23 v) (h : DataW.Trod enc Tryd.prog W 0 (fun _ => true) true 23 v d p) :
    ∃ (u s k h n : Int) (t : ByteArray), v = cv u s k h n t := by
  obtain ⟨cs, rfl, hsz⟩ := okWide_struct Tryd.underlying23 hv
  obtain ⟨c0, c1, c2, c3, c4, c5, rfl⟩ := array6 (hsz.trans (by kernel_rfl))
  obtain ⟨fuel, hf⟩ := h
  obtain ⟨xs, n, _, _, _, hlen, hf⟩ := DataW.trod_struct Tryd.underlying23 hf
  have k3 : Tryd.prog.cellsOf 3 = 1 := by kernel_rfl
  have k9 : Tryd.prog.cellsOf 9 = 1 := by kernel_rfl
  have l6 : xs.length = 6 := hlen
  have h0 : DataW.trod enc Tryd.prog W 0 (fun _ => true) true n 3 ((((Value.agg #[c0, c1, c2, c3, c4, c5]).cells.toList).drop 0).take (Tryd.prog.cellsOf 3)) = xs[0]? := hf 0 _ rfl
  have h1 : DataW.trod enc Tryd.prog W 0 (fun _ => true) true n 3 ((((Value.agg #[c0, c1, c2, c3, c4, c5]).cells.toList).drop 1).take (Tryd.prog.cellsOf 3)) = xs[1]? := hf 1 _ rfl
  have h2 : DataW.trod enc Tryd.prog W 0 (fun _ => true) true n 3 ((((Value.agg #[c0, c1, c2, c3, c4, c5]).cells.toList).drop 2).take (Tryd.prog.cellsOf 3)) = xs[2]? := hf 2 _ rfl
  have h3 : DataW.trod enc Tryd.prog W 0 (fun _ => true) true n 3 ((((Value.agg #[c0, c1, c2, c3, c4, c5]).cells.toList).drop 3).take (Tryd.prog.cellsOf 3)) = xs[3]? := hf 3 _ rfl
  have h4 : DataW.trod enc Tryd.prog W 0 (fun _ => true) true n 3 ((((Value.agg #[c0, c1, c2, c3, c4, c5]).cells.toList).drop 4).take (Tryd.prog.cellsOf 3)) = xs[4]? := hf 4 _ rfl
  have h5 : DataW.trod enc Tryd.prog W 0 (fun _ => true) true n 9 ((((Value.agg #[c0, c1, c2, c3, c4, c5]).cells.toList).drop 5).take (Tryd.prog.cellsOf 9)) = xs[5]? := hf 5 _ rfl
  rw [List.getElem?_eq_getElem (by omega), k3] at h0 h1 h2 h3 h4
  rw [List.getElem?_eq_getElem (by omega), k9] at h5
  obtain ⟨u, e0, _⟩ := DataW.trod_int Tryd.underlying3 h0
  obtain ⟨s, e1, _⟩ := DataW.trod_int Tryd.underlying3 h1
  obtain ⟨k, e2, _⟩ := DataW.trod_int Tryd.underlying3 h2
  obtain ⟨h', e3, _⟩ := DataW.trod_int Tryd.underlying3 h3
  obtain ⟨n', e4, _⟩ := DataW.trod_int Tryd.underlying3 h4
  obtain ⟨t, e5, _⟩ := DataW.trod_string Tryd.underlying9 h5
  simp [Value.cells] at e0 e1 e2 e3 e4 e5
  subst e0 e1 e2 e3 e4 e5
  exact ⟨u, s, k, h', n', t, rfl⟩

def UpPost (w : World) (e : Ending) (w' : World) : Prop := e = .returned (.bool true) ∧ Below w.heap.size w w'

theorem cpu_hi : cpu 7 1 4 3 0 ⟨#[104, 105]⟩ = ([4, 7, 1, 3, 2, 104, 105], 0) := by
  rw [cpu_yes (by decide), cbs]
  have e : nl 7 1 4 3 0 (⟨#[104, 105]⟩ : ByteArray).size = [4, 7, 1, 3, 2] := by rfl
  rw [e]
  simp only [pb, List.flatMap_cons, List.flatMap_nil]
  rw [vb_lo (by decide), vb_lo (by decide), vb_lo (by decide), vb_lo (by decide), vb_lo (by decide)]
  rfl

theorem awake_any (w : World) (hN : Nd w) : Calls Tryd.prog 9 #[] w (UpPost w) := by
  have H : Hid (Calls Tryd.prog 10 #[cv 7 1 4 3 0 ⟨#[104, 105]⟩] w (PutPost w .u8 [4, 7, 1, 3, 2, 104, 105] 0)) := put4_any 7 1 4 3 0 ⟨#[104, 105]⟩ w hN _ cpu_hi
  have HS : ∀ (W : World) (A : Option Addr) (c : Nat), Sl W W.heap.size .u8 A [4, 7, 1, 3, 2, 104, 105] → (convert 25 9 (.slice A 7 c)).run Tryd.prog W = .ok (.string ⟨#[4, 7, 1, 3, 2, 104, 105]⟩) W := fun W A c hsl => str_of hsl c _ (fun p hp => rfl)
  go_enter Tryd.func9, Tryd.ntmps9
  go_wp2_with (go_at_call 10; refine H.out.mono ?_; rintro e w1 ⟨A, c, rfl, ⟨hsl, hcap⟩, hbel⟩; have hcv := HS w1 A c hsl; clear hsl)
  go_ret
  exact ⟨rfl, hbel⟩

end Go.Proofs.YteajbcngimccmaaDoor
