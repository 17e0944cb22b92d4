/-
  How the tables are read off what their initialisers lay; how a command and a text that came in are read; '==' of commands; the walk of the statements' own first step ('awake'). Conditions: that the tables read as their initialisers lay them.
-/
import Derived.Test.YtpeieagfndggbaaDoorPa
import Derived.LaidMore
import Derived.LaidSub
import Derived.Lib.LaidTab
import Derived.Lib.SmallJoins
import Derived.Stop.Joined
import Derived.OpenShut
import Derived.ShutString
import Derived.ChangeOld
namespace Go.Proofs.YtpeieagfndggbaaDoor
open Go.RowKit Go.ChangeShapes Go.WideShapes Go.ChangeAt Go.Joins Tx

abbrev laid14 {H : Type} : List (String × DataW H) := [("math/bits.deBruijn32tab", Rows.laid_math_bits_deBruijn32tab), ("math/bits.deBruijn64tab", Rows.laid_math_bits_deBruijn64tab), ("internal/strconv.uint64pow10", Rows.laid_internal_strconv_uint64pow10), ("strconv.ErrRange", Rows.laid_strconv_ErrRange), ("strconv.ErrSyntax", Rows.laid_strconv_ErrSyntax), ("colloquy/text.needs", Rows.laid_colloquy_text_needs)]

theorem own : ownKnob Tryd.prog.godebug = none := by kernel_rfl
theorem laidOut : laidOutB Tryd.prog = true := by kernel_rfl
theorem gNeeds : Tryd.prog.globalNamed "colloquy/text.needs" = some 0 := by kernel_rfl
theorem tNeeds : (Tryd.prog.globals[0]?).map (·.type) = some 55 := by kernel_rfl
theorem tTab : (Tryd.prog.globals[4]?).map (·.type) = some 96 := by kernel_rfl

theorem door_met (os : Os) (args : Array Value) : laidMetH Tryd.prog laid14 ((World.doorLaid Tryd.prog 71 os).forCall (fun _ _ => 0) ⟨#[], args, []⟩).memory :=
  laidMetH_of_parts3 (fuel := 8) (laidMet_of_run' 8 (by kernel_rfl) (by kernel_rfl)) (by kernel_rfl) (by kernel_rfl)

theorem list_cell {α : Type} {l : List α} {a o : Nat} {v : α} (ho : o < 2) (h : ((((l.drop a).take 2).drop o).take 1) = [v]) : l[a + o]? = some v := by
  have := congrArg (fun x : List α => x[0]?) h
  simp only [List.getElem?_take, List.getElem?_drop, Nat.add_zero] at this
  rw [if_pos (by omega), if_pos ho] at this
  simpa using this

theorem needs_at {H : Type} (k : Nat) (hk : k < 8) : ([.agg [.lit (.bool false), .lit (.bool false)], .agg [.lit (.bool false), .lit (.bool false)], .agg [.lit (.bool false), .lit (.bool false)], .agg [.lit (.bool false), .lit (.bool false)], .agg [.lit (.bool false), .lit (.bool true)], .agg [.lit (.bool true), .lit (.bool true)], .agg [.lit (.bool true), .lit (.bool false)], .agg [.lit (.bool true), .lit (.bool false)]] : List (DataW H))[k]? = some (.agg [.lit (.bool (numbered k)), .lit (.bool (worded k))]) := by
  match k, hk with
  | 0, _ => rfl
  | 1, _ => rfl
  | 2, _ => rfl
  | 3, _ => rfl
  | 4, _ => rfl
  | 5, _ => rfl
  | 6, _ => rfl
  | 7, _ => rfl

theorem nd_of_laid {W : World} (h0 : laidMetH Tryd.prog laid14 W) : Nd W := by
  have f1 : (laid14 (H := Unit)).filter (fun x => x.1 == "colloquy/text.needs") = [("colloquy/text.needs", Rows.laid_colloquy_text_needs)] := by kernel_rfl
  have f2 : (laid14 (H := Unit)).filter (fun x => x.1 == "internal/strconv.uint64pow10") = [("internal/strconv.uint64pow10", Rows.laid_internal_strconv_uint64pow10)] := by kernel_rfl
  have h := h0.filter (fun x => x.1 == "colloquy/text.needs")
  have h2 := h0.filter (fun x => x.1 == "internal/strconv.uint64pow10")
  rw [f1] at h
  rw [f2] at h2
  rw [MakeChecks.laidMetH_plain _ _ _ (by kernel_rfl)] at h h2
  have ht : Lib.TabIs Tryd.prog W "internal/strconv.uint64pow10" .u64 Lib.pow10Tab := Lib.tabIs_of_head gTab tTab Tryd.underlying96 Tryd.underlying82 (by kernel_rfl) (by kernel_rfl) h2
  have h5 : 4 < W.heap.size := by
    have hc := ht
    unfold Lib.TabIs World.var? at hc
    rw [gTab, Option.bind_some] at hc
    rcases Nat.lt_or_ge 4 W.heap.size with q | q
    · exact q
    · rw [Array.getElem?_eq_none q] at hc; simp at hc
  refine ⟨?_, ht, h5⟩
  obtain ⟨ps, ⟨g0, t0, cs0, f0, p0, q0, hg0, ht0, hv0, hd0, _, _⟩, _, _⟩ := h
  obtain rfl := Option.some.inj (gNeeds.symm.trans hg0)
  obtain rfl := Option.some.inj (tNeeds.symm.trans ht0)
  obtain ⟨xs, m, _, hx, _, hn8, hel⟩ := DataW.trod_array Tryd.underlying55 hd0
  simp only [Prod.mk.injEq] at hx
  have hx1 := hx.1
  unfold Rows.laid_colloquy_text_needs at hx1
  simp only [DataW.agg.injEq] at hx1
  have c54 : Tryd.prog.cellsOf 54 = 2 := by kernel_rfl
  have c4 : Tryd.prog.cellsOf 4 = 1 := by kernel_rfl
  intro k hk
  have hk' : k < xs.length := by omega
  have e := hel k hk
  rw [c54, List.getElem?_eq_getElem hk'] at e
  obtain ⟨y0, y1, n, hy, _, e0, e1⟩ := trod_struct2 Tryd.underlying54 e
  simp only [c4] at e0 e1
  obtain ⟨b0, l0, z0⟩ := DataW.trod_bool Tryd.underlying4 e0
  obtain ⟨b1, l1, z1⟩ := DataW.trod_bool Tryd.underlying4 e1
  have hd := needs_at (H := Unit) k hk
  rw [hx1, List.getElem?_map, List.getElem?_eq_getElem hk', Option.map_some, hy, z0, z1] at hd
  simp at hd
  obtain ⟨rfl, rfl⟩ := hd
  have k0 := list_cell (by decide) l0
  have k1 := list_cell (by decide) l1
  refine ⟨?_, ?_⟩
  · rw [World.var?_cell hg0 hv0]; simpa using k0
  · rw [World.var?_cell hg0 hv0]; simpa using k1

theorem array6 {α : Type} {cs : Array α} (h : cs.size = 6) : ∃ c0 c1 c2 c3 c4 c5, cs = #[c0, c1, c2, c3, c4, c5] := by
  obtain ⟨l⟩ := cs
  match l, h with
  | [c0, c1, c2, c3, c4, c5], _ => exact ⟨c0, c1, c2, c3, c4, c5, rfl⟩

set_option maxRecDepth 100000 in
theorem open_cmd {H : Type} {enc : TypeId × Value → H} {W : World} {r : Reach} {b0 : Nat} {v : Value} {d : DataW H} {p : List MemPlace} (hv : Value.okWide Tryd.prog W r b0 24 v) (h : DataW.Trod enc Tryd.prog W 0 (fun _ => true) true 24 v d p) :
    ∃ (u s k h n : Int) (t : ByteArray), v = cv u s k h n t := by
  obtain ⟨cs, rfl, hsz⟩ := okWide_struct Tryd.underlying24 hv
  obtain ⟨c0, c1, c2, c3, c4, c5, rfl⟩ := array6 (hsz.trans (by kernel_rfl))
  obtain ⟨fuel, hf⟩ := h
  obtain ⟨xs, n, _, _, _, hlen, hf⟩ := DataW.trod_struct Tryd.underlying24 hf
  have k3 : Tryd.prog.cellsOf 3 = 1 := by kernel_rfl
  have k9 : Tryd.prog.cellsOf 9 = 1 := by kernel_rfl
  have l6 : xs.length = 6 := hlen
  have h0 : DataW.trod enc Tryd.prog W 0 (fun _ => true) true n 3 ((((Value.agg #[c0, c1, c2, c3, c4, c5]).cells.toList).drop 0).take (Tryd.prog.cellsOf 3)) = xs[0]? := hf 0 _ rfl
  have h1 : DataW.trod enc Tryd.prog W 0 (fun _ => true) true n 3 ((((Value.agg #[c0, c1, c2, c3, c4, c5]).cells.toList).drop 1).take (Tryd.prog.cellsOf 3)) = xs[1]? := hf 1 _ rfl
  have h2 : DataW.trod enc Tryd.prog W 0 (fun _ => true) true n 3 ((((Value.agg #[c0, c1, c2, c3, c4, c5]).cells.toList).drop 2).take (Tryd.prog.cellsOf 3)) = xs[2]? := hf 2 _ rfl
  have h3 : DataW.trod enc Tryd.prog W 0 (fun _ => true) true n 3 ((((Value.agg #[c0, c1, c2, c3, c4, c5]).cells.toList).drop 3).take (Tryd.prog.cellsOf 3)) = xs[3]? := hf 3 _ rfl
  have h4 : DataW.trod enc Tryd.prog W 0 (fun _ => true) true n 3 ((((Value.agg #[c0, c1, c2, c3, c4, c5]).cells.toList).drop 4).take (Tryd.prog.cellsOf 3)) = xs[4]? := hf 4 _ rfl
  have h5 : DataW.trod enc Tryd.prog W 0 (fun _ => true) true n 9 ((((Value.agg #[c0, c1, c2, c3, c4, c5]).cells.toList).drop 5).take (Tryd.prog.cellsOf 9)) = xs[5]? := hf 5 _ rfl
  rw [List.getElem?_eq_getElem (by omega), k3] at h0 h1 h2 h3 h4
  rw [List.getElem?_eq_getElem (by omega), k9] at h5
  obtain ⟨u, e0, _⟩ := DataW.trod_int Tryd.underlying3 h0
  obtain ⟨s, e1, _⟩ := DataW.trod_int Tryd.underlying3 h1
  obtain ⟨k, e2, _⟩ := DataW.trod_int Tryd.underlying3 h2
  obtain ⟨h', e3, _⟩ := DataW.trod_int Tryd.underlying3 h3
  obtain ⟨n', e4, _⟩ := DataW.trod_int Tryd.underlying3 h4
  obtain ⟨t, e5, _⟩ := DataW.trod_string Tryd.underlying9 h5
  simp [Value.cells] at e0 e1 e2 e3 e4 e5
  subst e0 e1 e2 e3 e4 e5
  exact ⟨u, s, k, h', n', t, rfl⟩

theorem bytes_same {a b : ByteArray} (h : a.toList = b.toList) : a = b := by
  rw [ByteArray.toList_eq, ByteArray.toList_eq] at h
  obtain ⟨⟨x⟩⟩ := a
  obtain ⟨⟨y⟩⟩ := b
  simp only at h
  rw [h]

theorem eq24 (w : World) (u s k h n u' s' k' h' n' : Int) (t t' : ByteArray) : (binOp .eql 24 (cv u s k h n t) (cv u' s' k' h' n' t')).run Tryd.prog w =
    .ok (.bool ((u == u') && (s == s') && (k == k') && (h == h') && (n == n') && decide (t = t'))) w := by
  rw [run_eql_struct, show (10000 : Nat) = 9999 + 1 from rfl, run_equalIn_struct w 9999 24 _ _ (by kernel_rfl) (by kernel_rfl)]
  simp [Op.eqFields, go_sem]
  by_cases h1 : u = u' <;> by_cases h2 : s = s' <;> by_cases h3 : k = k' <;> by_cases h4 : h = h' <;> by_cases h5 : n = n' <;> simp [h1, h2, h3, h4, h5]
  by_cases h6 : t = t'
  · simp [h6]
  · have : ¬ t.toList = t'.toList := fun e => h6 (bytes_same e)
    simp [h6, this]
theorem guard24 (w : World) (a b : Operand) (xs ys : Array Value) : (eqGuard .eql 24 a b (.agg xs) (.agg ys)).run Tryd.prog w = .ok () w := run_eqGuard_agg w .eql 24 a b xs ys (by kernel_rfl)
def UpPost (w : World) (e : Ending) (w' : World) : Prop := e = .returned (.bool true) ∧ Below w.heap.size w w'
end Go.Proofs.YtpeieagfndggbaaDoor
