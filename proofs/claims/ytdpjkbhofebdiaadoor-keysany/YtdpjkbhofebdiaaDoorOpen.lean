/-
  How the table of what kinds need is read off what its initialiser lays; how a command, a key and a slice of commands that came in are read; the walk of the statements' own first step ('awake'). Conditions: that the table reads as its initialiser lays it.
-/
import Derived.Test.YtdpjkbhofebdiaaDoorRitf
import Derived.LaidMore
import Derived.Lib.SmallJoins
import Derived.Stop.Joined
import Derived.OpenShut
import Derived.ShutString
import Derived.ChangeOld
import Derived.Deep.Slices
namespace Go.Proofs.YtdpjkbhofebdiaaDoor
open Go.RowKit Go.Deep Go.ChangeShapes Go.WideShapes Go.ChangeAt Go.Joins

abbrev laid4 {H : Type} : List (String × DataW H) := [("colloquy/command.needs", Rows.laid_colloquy_command_needs)]

theorem own : ownKnob Tryd.prog.godebug = none := by kernel_rfl
theorem laidOut : laidOutB Tryd.prog = true := by kernel_rfl
theorem gNeeds : Tryd.prog.globalNamed "colloquy/command.needs" = some 0 := by kernel_rfl
theorem tNeeds : (Tryd.prog.globals[0]?).map (·.type) = some 43 := by kernel_rfl

theorem door_met (os : Os) (args : Array Value) : laidMetH Tryd.prog laid4 ((World.doorLaid Tryd.prog 18 os).forCall (fun _ _ => 0) ⟨#[], args, []⟩).memory :=
  laidMetH_of_parts3 (fuel := 8) (laidMet_of_run' 8 (by kernel_rfl) (by kernel_rfl)) (by kernel_rfl) (by kernel_rfl)

theorem list_cell {α : Type} {l : List α} {a o : Nat} {v : α} (ho : o < 2) (h : ((((l.drop a).take 2).drop o).take 1) = [v]) : l[a + o]? = some v := by
  have := congrArg (fun x : List α => x[0]?) h
  simp only [List.getElem?_take, List.getElem?_drop, Nat.add_zero] at this
  rw [if_pos (by omega), if_pos ho] at this
  simpa using this

theorem needs_at {H : Type} (k : Nat) (hk : k < 8) : ([.agg [.lit (.bool false), .lit (.bool false)], .agg [.lit (.bool false), .lit (.bool false)], .agg [.lit (.bool false), .lit (.bool false)], .agg [.lit (.bool false), .lit (.bool false)], .agg [.lit (.bool false), .lit (.bool true)], .agg [.lit (.bool true), .lit (.bool true)], .agg [.lit (.bool true), .lit (.bool false)], .agg [.lit (.bool true), .lit (.bool false)]] : List (DataW H))[k]? = some (.agg [.lit (.bool (ndN k)), .lit (.bool (ndT k))]) := by
  match k, hk with
  | 0, _ => rfl
  | 1, _ => rfl
  | 2, _ => rfl
  | 3, _ => rfl
  | 4, _ => rfl
  | 5, _ => rfl
  | 6, _ => rfl
  | 7, _ => rfl

theorem nd_of_laid {W : World} (h : laidMetH Tryd.prog laid4 W) : Nd W := by
  rw [MakeChecks.laidMetH_plain _ _ _ (by kernel_rfl)] at h
  obtain ⟨ps, ⟨g0, t0, cs0, f0, p0, q0, hg0, ht0, hv0, hd0, _, _⟩, _, _⟩ := h
  obtain rfl := Option.some.inj (gNeeds.symm.trans hg0)
  obtain rfl := Option.some.inj (tNeeds.symm.trans ht0)
  obtain ⟨xs, m, _, hx, _, hn8, hel⟩ := DataW.trod_array Tryd.underlying43 hd0
  simp only [Prod.mk.injEq] at hx
  have hx1 := hx.1
  unfold Rows.laid_colloquy_command_needs at hx1
  simp only [DataW.agg.injEq] at hx1
  have c41 : Tryd.prog.cellsOf 42 = 2 := by kernel_rfl
  have c4 : Tryd.prog.cellsOf 4 = 1 := by kernel_rfl
  intro k hk
  have hk' : k < xs.length := by omega
  have e := hel k hk
  rw [c41, List.getElem?_eq_getElem hk'] at e
  obtain ⟨y0, y1, n, hy, _, e0, e1⟩ := trod_struct2 Tryd.underlying42 e
  simp only [c4] at e0 e1
  obtain ⟨b0, l0, z0⟩ := DataW.trod_bool Tryd.underlying4 e0
  obtain ⟨b1, l1, z1⟩ := DataW.trod_bool Tryd.underlying4 e1
  have hd := needs_at (H := Unit) k hk
  rw [hx1, List.getElem?_map, List.getElem?_eq_getElem hk', Option.map_some, hy, z0, z1] at hd
  simp at hd
  obtain ⟨rfl, rfl⟩ := hd
  have k0 := list_cell (by decide) l0
  have k1 := list_cell (by decide) l1
  refine ⟨?_, ?_⟩
  · rw [World.var?_cell hg0 hv0]; simpa using k0
  · rw [World.var?_cell hg0 hv0]; simpa using k1

theorem array6 {α : Type} {cs : Array α} (h : cs.size = 6) : ∃ c0 c1 c2 c3 c4 c5, cs = #[c0, c1, c2, c3, c4, c5] := by
  obtain ⟨l⟩ := cs
  match l, h with
  | [c0, c1, c2, c3, c4, c5], _ => exact ⟨c0, c1, c2, c3, c4, c5, rfl⟩

theorem cmd_of {H : Type} {enc : TypeId × Value → H} {W : World} {fuel : Nat} {c0 c1 c2 c3 c4 c5 : Value} {x : DataW H × List MemPlace} (hf : DataW.trod enc Tryd.prog W 0 (fun _ => true) true fuel 23 [c0, c1, c2, c3, c4, c5] = some x) :
    ∃ (u s k h n : Int) (t : ByteArray), c0 = .int .i64 u ∧ c1 = .int .i64 s ∧ c2 = .int .i64 k ∧ c3 = .int .i64 h ∧ c4 = .int .i64 n ∧ c5 = .string t := by
  obtain ⟨xs, n, _, _, _, hlen, hf⟩ := DataW.trod_struct Tryd.underlying23 hf
  have k3 : Tryd.prog.cellsOf 3 = 1 := by kernel_rfl
  have k9 : Tryd.prog.cellsOf 9 = 1 := by kernel_rfl
  have l6 : xs.length = 6 := hlen
  have h0 : DataW.trod enc Tryd.prog W 0 (fun _ => true) true n 3 ((([c0, c1, c2, c3, c4, c5]).drop 0).take (Tryd.prog.cellsOf 3)) = xs[0]? := hf 0 _ rfl
  have h1 : DataW.trod enc Tryd.prog W 0 (fun _ => true) true n 3 ((([c0, c1, c2, c3, c4, c5]).drop 1).take (Tryd.prog.cellsOf 3)) = xs[1]? := hf 1 _ rfl
  have h2 : DataW.trod enc Tryd.prog W 0 (fun _ => true) true n 3 ((([c0, c1, c2, c3, c4, c5]).drop 2).take (Tryd.prog.cellsOf 3)) = xs[2]? := hf 2 _ rfl
  have h3 : DataW.trod enc Tryd.prog W 0 (fun _ => true) true n 3 ((([c0, c1, c2, c3, c4, c5]).drop 3).take (Tryd.prog.cellsOf 3)) = xs[3]? := hf 3 _ rfl
  have h4 : DataW.trod enc Tryd.prog W 0 (fun _ => true) true n 3 ((([c0, c1, c2, c3, c4, c5]).drop 4).take (Tryd.prog.cellsOf 3)) = xs[4]? := hf 4 _ rfl
  have h5 : DataW.trod enc Tryd.prog W 0 (fun _ => true) true n 9 ((([c0, c1, c2, c3, c4, c5]).drop 5).take (Tryd.prog.cellsOf 9)) = xs[5]? := hf 5 _ rfl
  rw [List.getElem?_eq_getElem (by omega), k3] at h0 h1 h2 h3 h4
  rw [List.getElem?_eq_getElem (by omega), k9] at h5
  obtain ⟨u, e0, _⟩ := DataW.trod_int Tryd.underlying3 h0
  obtain ⟨s, e1, _⟩ := DataW.trod_int Tryd.underlying3 h1
  obtain ⟨k, e2, _⟩ := DataW.trod_int Tryd.underlying3 h2
  obtain ⟨h', e3, _⟩ := DataW.trod_int Tryd.underlying3 h3
  obtain ⟨n', e4, _⟩ := DataW.trod_int Tryd.underlying3 h4
  obtain ⟨t, e5, _⟩ := DataW.trod_string Tryd.underlying9 h5
  simp at e0 e1 e2 e3 e4 e5
  exact ⟨u, s, k, h', n', t, e0, e1, e2, e3, e4, e5⟩

theorem open_cmd {H : Type} {enc : TypeId × Value → H} {W : World} {r : Reach} {b0 : Nat} {v : Value} {d : DataW H} {p : List MemPlace} (hv : Value.okWide Tryd.prog W r b0 23 v) (h : DataW.Trod enc Tryd.prog W 0 (fun _ => true) true 23 v d p) :
    ∃ x : Cd, v = cv x.u x.s x.k x.h x.n x.t := by
  obtain ⟨cs, rfl, hsz⟩ := okWide_struct Tryd.underlying23 hv
  obtain ⟨c0, c1, c2, c3, c4, c5, rfl⟩ := array6 (hsz.trans (by kernel_rfl))
  obtain ⟨fuel, hf⟩ := h
  have hf' : DataW.trod enc Tryd.prog W 0 (fun _ => true) true fuel 23 [c0, c1, c2, c3, c4, c5] = some (d, p) := by simpa [Value.cells] using hf
  obtain ⟨u, s, k, h, n, t, rfl, rfl, rfl, rfl, rfl, rfl⟩ := cmd_of hf'
  exact ⟨⟨u, s, k, h, n, t⟩, rfl⟩

theorem open_key {H : Type} {enc : TypeId × Value → H} {W : World} {r : Reach} {b0 : Nat} {v : Value} {d : DataW H} {p : List MemPlace} (hv : Value.okWide Tryd.prog W r b0 33 v) (h : DataW.Trod enc Tryd.prog W 0 (fun _ => true) true 33 v d p) :
    ∃ x : Ky, v = kv x.a x.i x.c := by
  obtain ⟨v0, v1, v2, y0, y1, y2, n, rfl, _, _, h0, h1, h2⟩ := open_agg3 Tryd.underlying33 (by kernel_rfl) (by kernel_rfl) hv h
  obtain ⟨a, e0, _⟩ := DataW.trod_bool Tryd.underlying4 h0
  obtain ⟨i, e1, _⟩ := DataW.trod_int Tryd.underlying3 h1
  obtain ⟨c, e2, _⟩ := DataW.trod_bool Tryd.underlying4 h2
  simp at e0 e1 e2
  subst e0 e1 e2
  exact ⟨⟨a, i, c⟩, rfl⟩

theorem list_of {α : Type} {P : Nat → α → Prop} (n : Nat) (h : ∀ i, i < n → ∃ x, P i x) : ∃ l : List α, l.length = n ∧ ∀ i x, l[i]? = some x → P i x := by
  induction n with
  | zero => exact ⟨[], rfl, fun i x hx => by simp at hx⟩
  | succ n ih =>
    obtain ⟨l, hl, hp⟩ := ih (fun i hi => h i (by omega))
    obtain ⟨x, hx⟩ := h n (by omega)
    refine ⟨l ++ [x], by simp [hl], fun i y hy => ?_⟩
    rcases Nat.lt_or_ge i l.length with hi | hi
    · rw [List.getElem?_append_left hi] at hy
      exact hp i y hy
    · have : i = l.length := by
        have := (List.getElem?_eq_some_iff.1 hy).1
        simp at this; omega
      subst this
      rw [List.getElem?_append_right (Nat.le_refl _)] at hy
      simp at hy
      subst hy
      rw [hl]; exact hx

theorem list6 {α : Type} {l : List α} (h : l.length = 6) : ∃ c0 c1 c2 c3 c4 c5, l = [c0, c1, c2, c3, c4, c5] := by
  match l, h with
  | [c0, c1, c2, c3, c4, c5], _ => exact ⟨c0, c1, c2, c3, c4, c5, rfl⟩

theorem open_cmds {H : Type} {enc : TypeId × Value → H} {W : World} {r : Reach} {b0 : Nat} {v : Value} {d : DataW H} {p : List MemPlace} (hv : Value.okWide Tryd.prog W r b0 24 v) (h : DataW.Trod enc Tryd.prog W 0 (fun _ => true) true 24 v d p) :
    ∃ (A : Option Addr) (c : Nat) (l : List Cd), v = .slice A l.length c ∧ Cs W W.heap.size A l ∧ l.length ≤ c := by
  obtain ⟨A, len, c, rfl⟩ := okWide_slice Tryd.underlying24 hv
  obtain ⟨fuel, hf⟩ := h
  have c23 : Tryd.prog.cellsOf 23 = 6 := by kernel_rfl
  rcases open_slice Tryd.underlying24 hf with ⟨hcs, _⟩ | ⟨a, l, cap, m, n, D, Pl, hcs, _, hl, hm, hmm, _, hi⟩
  · simp [Value.cells] at hcs
    obtain ⟨rfl, rfl, rfl⟩ := hcs
    exact ⟨none, 0, [], rfl, Cs.nil, Nat.le_refl _⟩
  · simp [Value.cells] at hcs
    obtain ⟨rfl, rfl, rfl⟩ := hcs
    have hmc : m = c := by simpa using hmm
    subst hmc
    obtain ⟨L, hL, hP⟩ := list_of (P := fun i (x : Cd) => W.cell? (a.add (i * 6)) = some (.int .i64 x.u) ∧ W.cell? (a.add (i * 6 + 1)) = some (.int .i64 x.s) ∧ W.cell? (a.add (i * 6 + 2)) = some (.int .i64 x.k) ∧ W.cell? (a.add (i * 6 + 3)) = some (.int .i64 x.h) ∧ W.cell? (a.add (i * 6 + 4)) = some (.int .i64 x.n) ∧ W.cell? (a.add (i * 6 + 5)) = some (.string x.t)) len (fun i hi' => by
      obtain ⟨cs', h1, h2⟩ := hi i (by omega)
      rw [c23] at h1
      obtain ⟨_, hlen, hcell⟩ := World.cells?_some h1
      obtain ⟨c0, c1, c2, c3, c4, c5, rfl⟩ := list6 hlen
      obtain ⟨u, s, k, h, n, t, rfl, rfl, rfl, rfl, rfl, rfl⟩ := cmd_of h2
      have e0 := hcell 0 (by omega)
      have e1 := hcell 1 (by omega)
      have e2 := hcell 2 (by omega)
      have e3 := hcell 3 (by omega)
      have e4 := hcell 4 (by omega)
      have e5 := hcell 5 (by omega)
      rw [add_add] at e0 e1 e2 e3 e4 e5
      exact ⟨⟨u, s, k, h, n, t⟩, by simpa using e0, by simpa using e1, by simpa using e2, by simpa using e3, by simpa using e4, by simpa using e5⟩)
    subst hL
    refine ⟨some a, m, L, rfl, ?_, hl⟩
    rcases Nat.eq_zero_or_pos L.length with h0 | h0
    · exact .inl (List.length_eq_zero_iff.1 h0)
    · obtain ⟨b, off, sp⟩ := a
      have hc := (hP 0 L[0] (List.getElem?_eq_getElem h0)).1
      have hsp : sp = none := by simpa [Addr.add] using World.cell?_spot hc
      subst hsp
      have hc0 : W.cell? ⟨b, off, none⟩ = some (.int .i64 L[0].u) := by simpa [Addr.add] using hc
      refine .inr ⟨b, off, rfl, World.block_lt_of_cell? W _ hc0, fun i x hx => ?_⟩
      obtain ⟨q0, q1, q2, q3, q4, q5⟩ := hP i x hx
      rw [Addr.add_lit] at q0 q1 q2 q3 q4 q5
      refine ⟨q0, ?_, ?_, ?_, ?_, ?_⟩ <;> (rw [Nat.add_assoc]; assumption)

def UpPost (w : World) (e : Ending) (w' : World) : Prop := e = .returned (.bool true) ∧ Below w.heap.size w w'

theorem ex_ab : itf ⟨1, 1, 7, 3, 1, ⟨#[]⟩⟩ ⟨2, 1, 7, 3, 1, ⟨#[]⟩⟩ = false := by decide
theorem ex_ac : itf ⟨1, 1, 7, 3, 1, ⟨#[]⟩⟩ ⟨2, 1, 4, 3, 0, ⟨#[120]⟩⟩ = true := by decide
theorem ex_a : (kl ⟨1, 1, 7, 3, 1, ⟨#[]⟩⟩).length = 2 := by decide

set_option maxHeartbeats 1000000 in
theorem awake_any (w : World) (hN : Nd w) : Calls Tryd.prog 9 #[] w (UpPost w) := by
  have H1 : ∀ W, Nd W → Hid (Calls Tryd.prog 10 #[cv 1 1 7 3 1 ⟨#[]⟩, cv 2 1 7 3 1 ⟨#[]⟩] W (BoolPost W false)) := fun W h => by have := itf_any ⟨1, 1, 7, 3, 1, ⟨#[]⟩⟩ ⟨2, 1, 7, 3, 1, ⟨#[]⟩⟩ W h; rw [ex_ab] at this; exact this
  have H2 : ∀ W, Nd W → Hid (Calls Tryd.prog 10 #[cv 1 1 7 3 1 ⟨#[]⟩, cv 2 1 4 3 0 ⟨#[120]⟩] W (BoolPost W true)) := fun W h => by have := itf_any ⟨1, 1, 7, 3, 1, ⟨#[]⟩⟩ ⟨2, 1, 4, 3, 0, ⟨#[120]⟩⟩ W h; rw [ex_ac] at this; exact this
  have H3 : ∀ W, Nd W → Hid (Calls Tryd.prog 14 #[cv 1 1 7 3 1 ⟨#[]⟩] W (fun e w' => ∃ A c, e = .returned (.slice A 2 c) ∧ Below W.heap.size W w')) := fun W h => (of_any ⟨1, 1, 7, 3, 1, ⟨#[]⟩⟩ W h).mono fun e w' ⟨A, c, he, _, hb⟩ => ⟨A, c, by rw [he, ex_a], hb⟩
  go_enter Tryd.func9, Tryd.ntmps9
  go_wp2_with fail
  have BW : Below w.heap.size w (((w.alloc (.cells #[.int .i64 1, .int .i64 1, .int .i64 7, .int .i64 3, .int .i64 1, .string ⟨#[]⟩] 23)).alloc (.cells #[.int .i64 2, .int .i64 1, .int .i64 7, .int .i64 3, .int .i64 1, .string ⟨#[]⟩] 23)).alloc (.cells #[.int .i64 2, .int .i64 1, .int .i64 4, .int .i64 3, .int .i64 0, .string ⟨#[120]⟩] 23)) := (((Below.refl _ _).alloc (Nat.le_refl _) _).alloc (by simp) _).alloc (by simp; omega) _
  have Z0 : (((w.alloc (.cells #[.int .i64 1, .int .i64 1, .int .i64 7, .int .i64 3, .int .i64 1, .string ⟨#[]⟩] 23)).alloc (.cells #[.int .i64 2, .int .i64 1, .int .i64 7, .int .i64 3, .int .i64 1, .string ⟨#[]⟩] 23)).alloc (.cells #[.int .i64 2, .int .i64 1, .int .i64 4, .int .i64 3, .int .i64 0, .string ⟨#[120]⟩] 23)).heap.size = w.heap.size + 1 + 1 + 1 := by simp
  have CA : Cb (((w.alloc (.cells #[.int .i64 1, .int .i64 1, .int .i64 7, .int .i64 3, .int .i64 1, .string ⟨#[]⟩] 23)).alloc (.cells #[.int .i64 2, .int .i64 1, .int .i64 7, .int .i64 3, .int .i64 1, .string ⟨#[]⟩] 23)).alloc (.cells #[.int .i64 2, .int .i64 1, .int .i64 4, .int .i64 3, .int .i64 0, .string ⟨#[120]⟩] 23)) w.heap.size 1 1 7 3 1 ⟨#[]⟩ := ((cb_new w 1 1 7 3 1 ⟨#[]⟩).on ((Below.refl _ _).alloc (Nat.le_refl _) _) (by simp)).on ((Below.refl _ _).alloc (Nat.le_refl _) _) (by simp; omega)
  have CC : Cb (((w.alloc (.cells #[.int .i64 1, .int .i64 1, .int .i64 7, .int .i64 3, .int .i64 1, .string ⟨#[]⟩] 23)).alloc (.cells #[.int .i64 2, .int .i64 1, .int .i64 7, .int .i64 3, .int .i64 1, .string ⟨#[]⟩] 23)).alloc (.cells #[.int .i64 2, .int .i64 1, .int .i64 4, .int .i64 3, .int .i64 0, .string ⟨#[120]⟩] 23)) (w.heap.size + 1 + 1) 2 1 4 3 0 ⟨#[120]⟩ := by
    have := cb_new ((w.alloc (.cells #[.int .i64 1, .int .i64 1, .int .i64 7, .int .i64 3, .int .i64 1, .string ⟨#[]⟩] 23)).alloc (.cells #[.int .i64 2, .int .i64 1, .int .i64 7, .int .i64 3, .int .i64 1, .string ⟨#[]⟩] 23)) 2 1 4 3 0 ⟨#[120]⟩
    rw [show ((w.alloc (.cells #[.int .i64 1, .int .i64 1, .int .i64 7, .int .i64 3, .int .i64 1, .string ⟨#[]⟩] 23)).alloc (.cells #[.int .i64 2, .int .i64 1, .int .i64 7, .int .i64 3, .int .i64 1, .string ⟨#[]⟩] 23)).heap.size = w.heap.size + 1 + 1 by simp] at this
    exact this
  have N0 := hN.on BW
  generalize (((w.alloc (.cells #[.int .i64 1, .int .i64 1, .int .i64 7, .int .i64 3, .int .i64 1, .string ⟨#[]⟩] 23)).alloc (.cells #[.int .i64 2, .int .i64 1, .int .i64 7, .int .i64 3, .int .i64 1, .string ⟨#[]⟩] 23)).alloc (.cells #[.int .i64 2, .int .i64 1, .int .i64 4, .int .i64 3, .int .i64 0, .string ⟨#[120]⟩] 23)) = W0 at *
  refine (H1 _ N0).out.mono ?_
  rintro e w1 ⟨rfl, B1⟩
  have q1 := B1.size
  have N1 := N0.on B1
  obtain ⟨p0, p1, p2, p3, p4, p5⟩ := CA.on B1 (by omega)
  obtain ⟨r0, r1, r2, r3, r4, r5⟩ := CC.on B1 (by omega)
  go_wp2_with fail
  clear p0 p1 p2 p3 p4 p5 r0 r1 r2 r3 r4 r5
  refine (H2 _ N1).out.mono ?_
  rintro e w2 ⟨rfl, B2⟩
  have q2 := B2.size
  have N2 := N1.on B2
  have B02 := B1.trans (B2.mono q1)
  obtain ⟨p0, p1, p2, p3, p4, p5⟩ := CA.on B02 (by omega)
  go_wp2_with fail
  refine (H3 _ N2).out.mono ?_
  rintro e w3 ⟨A, c, rfl, B3⟩
  go_wp2
  go_ret
  exact ⟨rfl, BW.trans ((B02.trans (B3.mono (by omega))).mono BW.size)⟩

end Go.Proofs.YtdpjkbhofebdiaaDoor
