/-
  The walk of sort.swapRange_func at this translation, over a row of numbers of the caller's own, and the words for the worlds that a sort passes through. Conditions: the two parts do not meet and lie inside the row.
-/
import Derived.Test.YtjcmlelfmnonkaaSt
import Derived.Test.YtjcmlelfmnonkaaSl
import Derived.Test.YtjcmlelfmnonkaaCm
import Derived.Shelf.GgSortFunc.SW
namespace Go.Proofs.Ytjcmlelfmnonkaa
open Go.Shelf Go.RowKit Go.Sort
set_option linter.unusedVariables false
set_option maxRecDepth 100000

/-- A number as it lies in a row, whatever it is taken for: its last 64 digits. -/
def md (x : Nat) : Nat := x % 18446744073709551616
def en (x : Nat) : Value := .int .u64 ((md x : Nat) : Int)
def rk (x : Nat) : Nat := Fl.rank (md x)
def ltk (x y : Nat) : Bool := decide (rk x < rk y)
def fn (d : Array Nat) : Nat → Nat := fun i => d[i]!
/-- What a sort is handed: how to compare, how to change two. -/
def dat (lb sb : Array Value) : Value := .agg #[.func (.func 33) #[] lb, .func (.func 50) #[] sb]
def bx (lb sb : Array Value) : Obj := .cells #[.func (.func 33) #[] lb, .func (.func 50) #[] sb] 58
structure Rdy (lb sb : Array Value) (blk off n : Nat) (W : World) : Prop where
  less : LessReads Try.prog 33 lb en ltk blk off n W
  swap : SwapSwaps Try.prog 50 sb en blk off n
  blt : blk < W.heap.size
def SPost (W : World) (blk off n : Nat) (Q : Array Nat → Prop) (e : Ending) (w' : World) : Prop := e = .returned (.tuple #[]) ∧ ∃ d' : Array Nat, d'.size = n ∧ Q d' ∧ SW en W blk off d' w'

theorem sw_cell {V wr : World} {blk off b k : Nat} {dk : Array Nat} (h : SW en V blk off dk wr) (hb : b ≠ blk) (hl : b < V.heap.size) : wr.cell? ⟨b, k, none⟩ = V.cell? ⟨b, k, none⟩ := by
  obtain ⟨n, os, rfl⟩ := h
  unfold sortWorld
  rw [cell?_grow _ _ _ (by rw [Sort.size_putRow]; exact hl), cell?_putRow_other en _ blk off _ _ (Or.inl hb)]
  rfl
theorem sw_base {W wr : World} {blk off : Nat} {o : Obj} {dk : Array Nat} (hb : blk < W.heap.size) (h : SW en (W.alloc o) blk off dk wr) : SW en W blk off dk wr := by
  obtain ⟨m, os, rfl⟩ := h
  refine ⟨m, #[o] ++ os, ?_⟩
  rw [alloc_eq_grow]
  unfold sortWorld
  rw [ahead_grow, putRow_grow en (Sort.ahead W m) _ blk off _ hb, grow_grow]
theorem sw_then {W V wr : World} {blk off : Nat} {dk d' : Array Nat} (hb : blk < W.heap.size) (h : SW en W blk off dk V) (h2 : SW en V blk off d' wr) (hs : d'.size = dk.size) : SW en W blk off d' wr := by
  obtain ⟨m, os, rfl⟩ := h2
  exact h.on hb m d' os hs
theorem Rdy.on {lb sb : Array Value} {blk off n : Nat} {W wr : World} {dk : Array Nat} (R : Rdy lb sb blk off n W) (h : SW en W blk off dk wr) (hs : dk.size = n) : Rdy lb sb blk off n wr :=
  ⟨h.lessReads R.less R.blt hs, R.swap, h.lt R.blt⟩
theorem Rdy.box {lb sb : Array Value} {blk off n : Nat} {W : World} (R : Rdy lb sb blk off n W) (o : Obj) : Rdy lb sb blk off n (W.alloc o) := by
  rw [alloc_eq_grow]
  exact ⟨R.less.grow R.blt _, R.swap, by rw [size_grow]; have := R.blt; omega⟩
theorem holds_box {W : World} {blk off : Nat} {d : Array Nat} (hb : blk < W.heap.size) (hH : Holds en W blk off d) (o : Obj) : Holds en (W.alloc o) blk off d := by
  rw [alloc_eq_grow]; exact holds_grow en W _ blk off d hb hH
theorem box_cell {W wr : World} {lb sb : Array Value} {blk off : Nat} {dk : Array Nat} (hb : blk < W.heap.size) (h : SW en (W.alloc (bx lb sb)) blk off dk wr) :
    wr.cell? ⟨W.heap.size, 0, none⟩ = some (.func (.func 33) #[] lb) ∧ wr.cell? ⟨W.heap.size, 1, none⟩ = some (.func (.func 50) #[] sb) := by
  have hl : W.heap.size < (W.alloc (bx lb sb)).heap.size := by rw [alloc_eq_grow, size_grow]; simp
  refine ⟨?_, ?_⟩
  · rw [sw_cell h (by omega) hl]; unfold bx; simp
  · rw [sw_cell h (by omega) hl]; unfold bx; simp
theorem fn_swp {d : Array Nat} {i j : Nat} (hi : i < d.size) (hj : j < d.size) (x : Nat) : fn (swp d i j) x = if x = j then fn d i else if x = i then fn d j else fn d x := by
  unfold fn swp
  by_cases h1 : x = j
  · subst h1
    rw [if_pos rfl, getElem!_set_same _ _ _ (by simpa using hj)]
  · rw [if_neg h1, getElem!_set_other _ _ _ _ h1]
    by_cases h2 : x = i
    · subst h2
      rw [if_pos rfl, getElem!_set_same _ _ _ hi]
    · rw [if_neg h2, getElem!_set_other _ _ _ _ h2]
theorem e33 (args : Array Value) (w : World) : (callFunc 33 args).run Try.prog w = .ok (.enter 33 args) w := enters_of Try.func33 (by kernel_rfl) rfl args w

set_option maxHeartbeats 1000000 in
theorem range_any (lb sb : Array Value) (blk off n : Nat) (d : Array Nat) (hs : d.size = n) (a b k : Nat) (h1 : a + k ≤ b) (h2 : b + k ≤ n) (hn : n < 1152921504606846976) (W : World) (R : Rdy lb sb blk off n W) (hH : Holds en W blk off d) :
    Hid (Calls Try.prog 62 #[dat lb sb, .int .i64 (a : Int), .int .i64 (b : Int), .int .i64 (k : Int)] W (SPost W blk off n fun d' => ∀ x, fn d' x = St.sw (fn d) a b k x)) := by
  refine Lib.hid ?_
  have RV := Lib.hid (R.box (bx lb sb))
  have HV := Lib.hid (holds_box R.blt hH (bx lb sb))
  have hbl := R.blt
  have SV := Lib.hid (SW.start HV.out)
  clear hH R
  unfold dat
  go_enter Try.func62, Try.ntmps62
  go_wp2
  go_loopw [8] (fun v wr => ∃ (i : Nat) (dk : Array Nat), v = .int .i64 (i : Int) ∧ i ≤ k ∧ dk.size = n ∧ Hid (SW en (W.alloc (bx lb sb)) blk off dk wr) ∧ Hid (∀ x, fn dk x = St.sw (fn d) a b i x)) (fun v _ => k + 1 - (intOf v).toNat)
  case atStart => exact ⟨0, d, by go_num, by omega, hs, SV, Lib.hid (fun x => by unfold St.sw; rw [if_neg (by omega), if_neg (by omega)])⟩
  case round =>
    obtain ⟨i, dk, rfl, hik, hsk, HS, HF⟩ := hrel
    obtain ⟨c0, c1⟩ := box_cell hbl HS.out
    by_cases hlt : i < k
    · have hsw := RV.out.swap wr dk (HS.out.holds RV.out.blt HV.out (by omega)) hsk (a + i) (b + i) (by omega) (by omega)
      rw [Int.natCast_add, Int.natCast_add] at hsw
      have HN : Hid (SW en (W.alloc (bx lb sb)) blk off (swp dk (a + i) (b + i)) _) := Lib.hid (HS.out.swap RV.out.blt (a + i) (b + i) (by omega) (by omega))
      have HG : Hid (∀ x, fn (swp dk (a + i) (b + i)) x = St.sw (fn d) a b (i + 1) x) := Lib.hid (fun x => by
        rw [fn_swp (by omega) (by omega), St.sw_one (by omega) (by omega)]
        simp only [HF.out])
      have HW := Lib.hid hsw
      clear hsw
      go_wp2
      rw [HW.out, Oper.upon_value]
      go_wp2
      go_roundw
      case rel => exact ⟨i + 1, swp dk (a + i) (b + i), by go_num, by omega, by rw [size_swp]; exact hsk, HN, HG⟩
      case measure => simp [intOf]; omega
    · have hik2 : i = k := by omega
      subst hik2
      go_wp2
      go_end0
      exact ⟨rfl, dk, hsk, HF.out, sw_base hbl HS.out⟩
end Go.Proofs.Ytjcmlelfmnonkaa
