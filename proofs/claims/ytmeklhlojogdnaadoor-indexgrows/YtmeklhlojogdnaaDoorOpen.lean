/-
  How the table of what kinds need is read off what its initialiser lays; how a command, an instance, what is known of one, and a slice of such, that came in, are read. No program's function is walked here. Conditions: that the table reads as its initialiser lays it.
-/
import Derived.Test.YtmeklhlojogdnaaDoorNsm
import Derived.LaidMore
import Derived.Lib.SmallJoins
import Derived.Stop.Joined
import Derived.OpenShut
import Derived.ShutString
import Derived.ChangeOld
import Derived.Deep.Slices
namespace Go.Proofs.YtmeklhlojogdnaaDoor
open Go.RowKit Go.Deep Go.ChangeShapes Go.WideShapes Go.ChangeAt Go.Joins

abbrev laid4 {H : Type} : List (String × DataW H) := [("colloquy/command.needs", Rows.laid_colloquy_command_needs)]

theorem own : ownKnob Tryd.prog.godebug = none := by kernel_rfl
theorem gNeeds : Tryd.prog.globalNamed "colloquy/command.needs" = some 0 := by kernel_rfl
theorem tNeeds : (Tryd.prog.globals[0]?).map (·.type) = some 77 := by kernel_rfl

theorem door_met (os : Os) (args : Array Value) : laidMetH Tryd.prog laid4 ((World.doorLaid Tryd.prog 18 os).forCall (fun _ _ => 0) ⟨#[], args, []⟩).memory :=
  laidMetH_of_parts3 (fuel := 8) (laidMet_of_run' 8 (by kernel_rfl) (by kernel_rfl)) (by kernel_rfl) (by kernel_rfl)

theorem list_cell {α : Type} {l : List α} {a o : Nat} {v : α} (ho : o < 2) (h : ((((l.drop a).take 2).drop o).take 1) = [v]) : l[a + o]? = some v := by
  have := congrArg (fun x : List α => x[0]?) h
  simp only [List.getElem?_take, List.getElem?_drop, Nat.add_zero] at this
  rw [if_pos (by omega), if_pos ho] at this
  simpa using this

theorem needs_at {H : Type} (k : Nat) (hk : k < 8) : ([.agg [.lit (.bool false), .lit (.bool false)], .agg [.lit (.bool false), .lit (.bool false)], .agg [.lit (.bool false), .lit (.bool false)], .agg [.lit (.bool false), .lit (.bool false)], .agg [.lit (.bool false), .lit (.bool true)], .agg [.lit (.bool true), .lit (.bool true)], .agg [.lit (.bool true), .lit (.bool false)], .agg [.lit (.bool true), .lit (.bool false)]] : List (DataW H))[k]? = some (.agg [.lit (.bool (ndN k)), .lit (.bool (ndT k))]) := by
  match k, hk with
  | 0, _ => rfl
  | 1, _ => rfl
  | 2, _ => rfl
  | 3, _ => rfl
  | 4, _ => rfl
  | 5, _ => rfl
  | 6, _ => rfl
  | 7, _ => rfl

theorem nd_of_laid {W : World} (h : laidMetH Tryd.prog laid4 W) : Nd W := by
  rw [MakeChecks.laidMetH_plain _ _ _ (by kernel_rfl)] at h
  obtain ⟨ps, ⟨g0, t0, cs0, f0, p0, q0, hg0, ht0, hv0, hd0, _, _⟩, _, _⟩ := h
  obtain rfl := Option.some.inj (gNeeds.symm.trans hg0)
  obtain rfl := Option.some.inj (tNeeds.symm.trans ht0)
  obtain ⟨xs, m, _, hx, _, hn8, hel⟩ := DataW.trod_array Tryd.underlying77 hd0
  simp only [Prod.mk.injEq] at hx
  have hx1 := hx.1
  unfold Rows.laid_colloquy_command_needs at hx1
  simp only [DataW.agg.injEq] at hx1
  have c41 : Tryd.prog.cellsOf 76 = 2 := by kernel_rfl
  have c4 : Tryd.prog.cellsOf 4 = 1 := by kernel_rfl
  intro k hk
  have hk' : k < xs.length := by omega
  have e := hel k hk
  rw [c41, List.getElem?_eq_getElem hk'] at e
  obtain ⟨y0, y1, n, hy, _, e0, e1⟩ := trod_struct2 Tryd.underlying76 e
  simp only [c4] at e0 e1
  obtain ⟨b0, l0, z0⟩ := DataW.trod_bool Tryd.underlying4 e0
  obtain ⟨b1, l1, z1⟩ := DataW.trod_bool Tryd.underlying4 e1
  have hd := needs_at (H := Unit) k hk
  rw [hx1, List.getElem?_map, List.getElem?_eq_getElem hk', Option.map_some, hy, z0, z1] at hd
  simp at hd
  obtain ⟨rfl, rfl⟩ := hd
  have k0 := list_cell (by decide) l0
  have k1 := list_cell (by decide) l1
  refine ⟨?_, ?_⟩
  · rw [World.var?_cell hg0 hv0]; simpa using k0
  · rw [World.var?_cell hg0 hv0]; simpa using k1

theorem array6 {α : Type} {cs : Array α} (h : cs.size = 6) : ∃ c0 c1 c2 c3 c4 c5, cs = #[c0, c1, c2, c3, c4, c5] := by
  obtain ⟨l⟩ := cs
  match l, h with
  | [c0, c1, c2, c3, c4, c5], _ => exact ⟨c0, c1, c2, c3, c4, c5, rfl⟩

theorem cmd_of {H : Type} {enc : TypeId × Value → H} {W : World} {fuel : Nat} {c0 c1 c2 c3 c4 c5 : Value} {x : DataW H × List MemPlace} (hf : DataW.trod enc Tryd.prog W 0 (fun _ => true) true fuel 24 [c0, c1, c2, c3, c4, c5] = some x) :
    ∃ (u s k h n : Int) (t : ByteArray), c0 = .int .i64 u ∧ c1 = .int .i64 s ∧ c2 = .int .i64 k ∧ c3 = .int .i64 h ∧ c4 = .int .i64 n ∧ c5 = .string t := by
  obtain ⟨xs, n, _, _, _, hlen, hf⟩ := DataW.trod_struct Tryd.underlying24 hf
  have k3 : Tryd.prog.cellsOf 3 = 1 := by kernel_rfl
  have k9 : Tryd.prog.cellsOf 9 = 1 := by kernel_rfl
  have l6 : xs.length = 6 := hlen
  have h0 : DataW.trod enc Tryd.prog W 0 (fun _ => true) true n 3 ((([c0, c1, c2, c3, c4, c5]).drop 0).take (Tryd.prog.cellsOf 3)) = xs[0]? := hf 0 _ rfl
  have h1 : DataW.trod enc Tryd.prog W 0 (fun _ => true) true n 3 ((([c0, c1, c2, c3, c4, c5]).drop 1).take (Tryd.prog.cellsOf 3)) = xs[1]? := hf 1 _ rfl
  have h2 : DataW.trod enc Tryd.prog W 0 (fun _ => true) true n 3 ((([c0, c1, c2, c3, c4, c5]).drop 2).take (Tryd.prog.cellsOf 3)) = xs[2]? := hf 2 _ rfl
  have h3 : DataW.trod enc Tryd.prog W 0 (fun _ => true) true n 3 ((([c0, c1, c2, c3, c4, c5]).drop 3).take (Tryd.prog.cellsOf 3)) = xs[3]? := hf 3 _ rfl
  have h4 : DataW.trod enc Tryd.prog W 0 (fun _ => true) true n 3 ((([c0, c1, c2, c3, c4, c5]).drop 4).take (Tryd.prog.cellsOf 3)) = xs[4]? := hf 4 _ rfl
  have h5 : DataW.trod enc Tryd.prog W 0 (fun _ => true) true n 9 ((([c0, c1, c2, c3, c4, c5]).drop 5).take (Tryd.prog.cellsOf 9)) = xs[5]? := hf 5 _ rfl
  rw [List.getElem?_eq_getElem (by omega), k3] at h0 h1 h2 h3 h4
  rw [List.getElem?_eq_getElem (by omega), k9] at h5
  obtain ⟨u, e0, _⟩ := DataW.trod_int Tryd.underlying3 h0
  obtain ⟨s, e1, _⟩ := DataW.trod_int Tryd.underlying3 h1
  obtain ⟨k, e2, _⟩ := DataW.trod_int Tryd.underlying3 h2
  obtain ⟨h', e3, _⟩ := DataW.trod_int Tryd.underlying3 h3
  obtain ⟨n', e4, _⟩ := DataW.trod_int Tryd.underlying3 h4
  obtain ⟨t, e5, _⟩ := DataW.trod_string Tryd.underlying9 h5
  simp at e0 e1 e2 e3 e4 e5
  exact ⟨u, s, k, h', n', t, e0, e1, e2, e3, e4, e5⟩

theorem open_cmd {H : Type} {enc : TypeId × Value → H} {W : World} {r : Reach} {b0 : Nat} {v : Value} {d : DataW H} {p : List MemPlace} (hv : Value.okWide Tryd.prog W r b0 24 v) (h : DataW.Trod enc Tryd.prog W 0 (fun _ => true) true 24 v d p) :
    ∃ x : Cd, v = cv x.u x.s x.k x.h x.n x.t := by
  obtain ⟨cs, rfl, hsz⟩ := okWide_struct Tryd.underlying24 hv
  obtain ⟨c0, c1, c2, c3, c4, c5, rfl⟩ := array6 (hsz.trans (by kernel_rfl))
  obtain ⟨fuel, hf⟩ := h
  have hf' : DataW.trod enc Tryd.prog W 0 (fun _ => true) true fuel 24 [c0, c1, c2, c3, c4, c5] = some (d, p) := by simpa [Value.cells] using hf
  obtain ⟨u, s, k, h, n, t, rfl, rfl, rfl, rfl, rfl, rfl⟩ := cmd_of hf'
  exact ⟨⟨u, s, k, h, n, t⟩, rfl⟩

theorem list_of {α : Type} {P : Nat → α → Prop} (n : Nat) (h : ∀ i, i < n → ∃ x, P i x) : ∃ l : List α, l.length = n ∧ ∀ i x, l[i]? = some x → P i x := by
  induction n with
  | zero => exact ⟨[], rfl, fun i x hx => by simp at hx⟩
  | succ n ih =>
    obtain ⟨l, hl, hp⟩ := ih (fun i hi => h i (by omega))
    obtain ⟨x, hx⟩ := h n (by omega)
    refine ⟨l ++ [x], by simp [hl], fun i y hy => ?_⟩
    rcases Nat.lt_or_ge i l.length with hi | hi
    · rw [List.getElem?_append_left hi] at hy
      exact hp i y hy
    · have : i = l.length := by
        have := (List.getElem?_eq_some_iff.1 hy).1
        simp at this; omega
      subst this
      rw [List.getElem?_append_right (Nat.le_refl _)] at hy
      simp at hy
      subst hy
      rw [hl]; exact hx

theorem int_of {n : Int} (h : (Lit.int .i64 n).wf = true) : -9223372036854775808 ≤ n ∧ n ≤ 9223372036854775807 := by
  have := bounds_i64 h
  omega

theorem open_inst {H : Type} {enc : TypeId × Value → H} {W : World} {r : Reach} {b0 : Nat} {v : Value} {d : DataW H} {p : List MemPlace} (hv : Value.okWide Tryd.prog W r b0 26 v) (h : DataW.Trod enc Tryd.prog W 0 (fun _ => true) true 26 v d p) :
    ∃ x : Int × Int, v = iv x := by
  obtain ⟨v0, v1, y0, y1, n, rfl, _, _, h0, h1⟩ := open_agg2 Tryd.underlying26 (by kernel_rfl) (by kernel_rfl) hv h
  obtain ⟨k, hk, _, hw⟩ := DataW.trod_int Tryd.underlying3 h0
  obtain ⟨j, hj, _, hw'⟩ := DataW.trod_int Tryd.underlying3 h1
  simp at hk hj
  subst hk hj
  exact ⟨(k, j), rfl⟩

theorem inst_of {H : Type} {enc : TypeId × Value → H} {W : World} {fuel : Nat} {c0 c1 : Value} {x : DataW H × List MemPlace} (hf : DataW.trod enc Tryd.prog W 0 (fun _ => true) true fuel 26 [c0, c1] = some x) :
    ∃ i : Int × Int, c0 = .int .i64 i.1 ∧ c1 = .int .i64 i.2 ∧ -9223372036854775808 ≤ i.1 ∧ i.1 ≤ 9223372036854775807 := by
  obtain ⟨xs, n, _, _, _, hlen, hf⟩ := DataW.trod_struct Tryd.underlying26 hf
  have k3 : Tryd.prog.cellsOf 3 = 1 := by kernel_rfl
  have l2 : xs.length = 2 := hlen
  have h0 : DataW.trod enc Tryd.prog W 0 (fun _ => true) true n 3 ((([c0, c1]).drop 0).take (Tryd.prog.cellsOf 3)) = xs[0]? := hf 0 _ rfl
  have h1 : DataW.trod enc Tryd.prog W 0 (fun _ => true) true n 3 ((([c0, c1]).drop 1).take (Tryd.prog.cellsOf 3)) = xs[1]? := hf 1 _ rfl
  rw [List.getElem?_eq_getElem (by omega), k3] at h0 h1
  obtain ⟨u, e0, _, hw⟩ := DataW.trod_int Tryd.underlying3 h0
  obtain ⟨s, e1, _⟩ := DataW.trod_int Tryd.underlying3 h1
  simp at e0 e1
  exact ⟨(u, s), e0, e1, (int_of hw).1, (int_of hw).2⟩

theorem kn_of {H : Type} {enc : TypeId × Value → H} {W : World} {fuel : Nat} {c0 c1 c2 c3 c4 c5 c6 c7 c8 : Value} {x : DataW H × List MemPlace} (hf : DataW.trod enc Tryd.prog W 0 (fun _ => true) true fuel 29 [c0, c1, c2, c3, c4, c5, c6, c7, c8] = some x) :
    ∃ k : Kn, -9223372036854775808 ≤ k.q ∧ k.q ≤ 9223372036854775807 ∧ c0 = .int .i64 k.i.1 ∧ c1 = .int .i64 k.i.2 ∧ c2 = .int .i64 k.c.u ∧ c3 = .int .i64 k.c.s ∧ c4 = .int .i64 k.c.k ∧ c5 = .int .i64 k.c.h ∧ c6 = .int .i64 k.c.n ∧ c7 = .string k.c.t ∧ c8 = .int .i64 k.q := by
  obtain ⟨xs, n, _, _, _, hlen, hf⟩ := DataW.trod_struct Tryd.underlying29 hf
  have k3 : Tryd.prog.cellsOf 3 = 1 := by kernel_rfl
  have k26 : Tryd.prog.cellsOf 26 = 2 := by kernel_rfl
  have k24 : Tryd.prog.cellsOf 24 = 6 := by kernel_rfl
  have l3 : xs.length = 3 := hlen
  have h0 : DataW.trod enc Tryd.prog W 0 (fun _ => true) true n 26 ((([c0, c1, c2, c3, c4, c5, c6, c7, c8]).drop 0).take (Tryd.prog.cellsOf 26)) = xs[0]? := hf 0 _ rfl
  have h1 : DataW.trod enc Tryd.prog W 0 (fun _ => true) true n 24 ((([c0, c1, c2, c3, c4, c5, c6, c7, c8]).drop 2).take (Tryd.prog.cellsOf 24)) = xs[1]? := hf 1 _ rfl
  have h2 : DataW.trod enc Tryd.prog W 0 (fun _ => true) true n 3 ((([c0, c1, c2, c3, c4, c5, c6, c7, c8]).drop 8).take (Tryd.prog.cellsOf 3)) = xs[2]? := hf 2 _ rfl
  rw [List.getElem?_eq_getElem (by omega), k26] at h0
  rw [List.getElem?_eq_getElem (by omega), k24] at h1
  rw [List.getElem?_eq_getElem (by omega), k3] at h2
  obtain ⟨i, e0, e1, _⟩ := inst_of (c0 := c0) (c1 := c1) (by simpa using h0)
  obtain ⟨u, s, k, h, n', t, e2, e3, e4, e5, e6, e7⟩ := cmd_of (c0 := c2) (c1 := c3) (c2 := c4) (c3 := c5) (c4 := c6) (c5 := c7) (by simpa using h1)
  obtain ⟨q, e8, _, hw⟩ := DataW.trod_int Tryd.underlying3 h2
  simp at e8
  exact ⟨⟨i, ⟨u, s, k, h, n', t⟩, q⟩, (int_of hw).1, (int_of hw).2, e0, e1, e2, e3, e4, e5, e6, e7, e8⟩

theorem array9 {α : Type} {cs : Array α} (h : cs.size = 9) : ∃ c0 c1 c2 c3 c4 c5 c6 c7 c8, cs = #[c0, c1, c2, c3, c4, c5, c6, c7, c8] := by
  obtain ⟨l⟩ := cs
  match l, h with
  | [c0, c1, c2, c3, c4, c5, c6, c7, c8], _ => exact ⟨c0, c1, c2, c3, c4, c5, c6, c7, c8, rfl⟩
theorem list9 {α : Type} {l : List α} (h : l.length = 9) : ∃ c0 c1 c2 c3 c4 c5 c6 c7 c8, l = [c0, c1, c2, c3, c4, c5, c6, c7, c8] := by
  match l, h with
  | [c0, c1, c2, c3, c4, c5, c6, c7, c8], _ => exact ⟨c0, c1, c2, c3, c4, c5, c6, c7, c8, rfl⟩

theorem open_kn {H : Type} {enc : TypeId × Value → H} {W : World} {r : Reach} {b0 : Nat} {v : Value} {d : DataW H} {p : List MemPlace} (hv : Value.okWide Tryd.prog W r b0 29 v) (h : DataW.Trod enc Tryd.prog W 0 (fun _ => true) true 29 v d p) :
    ∃ k : Kn, v = .agg #[.int .i64 k.i.1, .int .i64 k.i.2, .int .i64 k.c.u, .int .i64 k.c.s, .int .i64 k.c.k, .int .i64 k.c.h, .int .i64 k.c.n, .string k.c.t, .int .i64 k.q] ∧ -9223372036854775808 ≤ k.q ∧ k.q ≤ 9223372036854775807 := by
  obtain ⟨cs, rfl, hsz⟩ := okWide_struct Tryd.underlying29 hv
  obtain ⟨c0, c1, c2, c3, c4, c5, c6, c7, c8, rfl⟩ := array9 (hsz.trans (by kernel_rfl))
  obtain ⟨fuel, hf⟩ := h
  have hf' : DataW.trod enc Tryd.prog W 0 (fun _ => true) true fuel 29 [c0, c1, c2, c3, c4, c5, c6, c7, c8] = some (d, p) := by simpa [Value.cells] using hf
  obtain ⟨k, hq, hq2, rfl, rfl, rfl, rfl, rfl, rfl, rfl, rfl, rfl⟩ := kn_of hf'
  exact ⟨k, rfl, hq, hq2⟩

theorem open_kns {H : Type} {enc : TypeId × Value → H} {W : World} {r : Reach} {b0 : Nat} {v : Value} {d : DataW H} {p : List MemPlace} (hv : Value.okWide Tryd.prog W r b0 22 v) (h : DataW.Trod enc Tryd.prog W 0 (fun _ => true) true 22 v d p) :
    ∃ (A : Option Addr) (c : Nat) (l : List Kn), v = .slice A l.length c ∧ Ns W W.heap.size A l ∧ l.length ≤ c ∧ ∀ k ∈ l, -9223372036854775808 ≤ k.q := by
  obtain ⟨A, len, c, rfl⟩ := okWide_slice Tryd.underlying22 hv
  obtain ⟨fuel, hf⟩ := h
  have c29 : Tryd.prog.cellsOf 29 = 9 := by kernel_rfl
  rcases open_slice Tryd.underlying22 hf with ⟨hcs, _⟩ | ⟨a, l, cap, m, n, D, Pl, hcs, _, hl, hm, hmm, _, hi⟩
  · simp [Value.cells] at hcs
    obtain ⟨rfl, rfl, rfl⟩ := hcs
    exact ⟨none, 0, [], rfl, Ns.nil, Nat.le_refl _, by simp⟩
  · simp [Value.cells] at hcs
    obtain ⟨rfl, rfl, rfl⟩ := hcs
    have hmc : m = c := by simpa using hmm
    subst hmc
    obtain ⟨L, hL, hP⟩ := list_of (P := fun i (x : Kn) => -9223372036854775808 ≤ x.q ∧ W.cell? (a.add (i * 9)) = some (.int .i64 x.i.1) ∧ W.cell? (a.add (i * 9 + 1)) = some (.int .i64 x.i.2) ∧ W.cell? (a.add (i * 9 + 2)) = some (.int .i64 x.c.u) ∧ W.cell? (a.add (i * 9 + 3)) = some (.int .i64 x.c.s) ∧ W.cell? (a.add (i * 9 + 4)) = some (.int .i64 x.c.k) ∧ W.cell? (a.add (i * 9 + 5)) = some (.int .i64 x.c.h) ∧ W.cell? (a.add (i * 9 + 6)) = some (.int .i64 x.c.n) ∧ W.cell? (a.add (i * 9 + 7)) = some (.string x.c.t) ∧ W.cell? (a.add (i * 9 + 8)) = some (.int .i64 x.q)) len (fun i hi' => by
      obtain ⟨cs', h1, h2⟩ := hi i (by omega)
      rw [c29] at h1
      obtain ⟨_, hlen, hcell⟩ := World.cells?_some h1
      obtain ⟨c0, c1, c2, c3, c4, c5, c6, c7, c8, rfl⟩ := list9 hlen
      obtain ⟨k, hq, _, rfl, rfl, rfl, rfl, rfl, rfl, rfl, rfl, rfl⟩ := kn_of h2
      have e0 := hcell 0 (by omega)
      have e1 := hcell 1 (by omega)
      have e2 := hcell 2 (by omega)
      have e3 := hcell 3 (by omega)
      have e4 := hcell 4 (by omega)
      have e5 := hcell 5 (by omega)
      have e6 := hcell 6 (by omega)
      have e7 := hcell 7 (by omega)
      have e8 := hcell 8 (by omega)
      rw [add_add] at e0 e1 e2 e3 e4 e5 e6 e7 e8
      exact ⟨k, hq, by simpa using e0, by simpa using e1, by simpa using e2, by simpa using e3, by simpa using e4, by simpa using e5, by simpa using e6, by simpa using e7, by simpa using e8⟩)
    subst hL
    refine ⟨some a, m, L, rfl, ?_, hl, fun k hk => ?_⟩
    · rcases Nat.eq_zero_or_pos L.length with h0 | h0
      · exact .inl (List.length_eq_zero_iff.1 h0)
      · obtain ⟨b, off, sp⟩ := a
        have hc := (hP 0 L[0] (List.getElem?_eq_getElem h0)).2.1
        have hsp : sp = none := by simpa [Addr.add] using World.cell?_spot hc
        subst hsp
        have hc0 : W.cell? ⟨b, off, none⟩ = some (.int .i64 L[0].i.1) := by simpa [Addr.add] using hc
        refine .inr ⟨b, off, rfl, World.block_lt_of_cell? W _ hc0, fun i x hx => ?_⟩
        obtain ⟨_, q0, q1, q2, q3, q4, q5, q6, q7, q8⟩ := hP i x hx
        rw [Addr.add_lit] at q0 q1 q2 q3 q4 q5 q6 q7 q8
        refine ⟨q0, ?_, ?_, ?_, ?_, ?_, ?_, ?_, ?_⟩ <;> (rw [Nat.add_assoc]; assumption)
    · obtain ⟨i, hi⟩ := List.getElem?_of_mem hk
      exact (hP i k hi).1

def UpPost (w : World) (e : Ending) (w' : World) : Prop := e = .returned (.bool true) ∧ Below w.heap.size w w'

end Go.Proofs.YtmeklhlojogdnaaDoor
