/-
  The walks of small readers: order's near, and the document's near, Has, Less, Same. Conditions: at most 1000 deps, instances.
-/
import Derived.Test.YtgpciipemgljcaaGreatGae
import Derived.Test.YtgpciipemgljcaaGreatGac
import Derived.Test.YtgpciipemgljcaaGreatGab
import Derived.RangeFuncNested
import Derived.RangeFuncBound
import Derived.RangeFuncCalls
import Derived.RangeFuncLeaves
import Derived.Shelf.Abstract
import Derived.Shelf.RegionOpen
import Derived.OwnWalkIn
import Derived.TacticsInMore
import Derived.LoopNIn
import Derived.LoopIn
import Derived.Sort.LoopGhostIn
import Derived.WalkKit
import Derived.RangeFuncBox
namespace Go.Proofs.YtgpciipemgljcaaGreat.Od
open Go.RowKit
open Go.Proofs.YtgpciipemgljcaaGreat.Gp (below_drewN)
set_option linter.unusedVariables false

theorem nr_no1 {n : No} (h : ¬ 1 ≤ n.b ∨ ¬ n.b ≤ 7 ∨ ¬ 1 ≤ n.s ∨ ¬ n.s ≤ 60) : nr n = false := by
  rw [Bool.eq_false_iff]; intro k; have := nr_iff.1 k; omega
theorem nr_dep {n : No} (h1 : 1 ≤ n.b) (h2 : n.b ≤ 7) (h3 : 1 ≤ n.s) (h4 : n.s ≤ 60) : nr n = !n.d.any fun x => decide (60 < x) := by
  rw [Bool.eq_iff_iff, nr_iff]
  simp only [Bool.not_eq_true', List.any_eq_false, decide_eq_true_eq]
  constructor
  · rintro ⟨_, _, _, _, h⟩ x hx
    have := h x hx; omega
  · intro h
    exact ⟨h1, h2, h3, h4, fun x hx => by have := h x hx; omega⟩

/-- The closure that asks whether a dep is far. -/
theorem far_any (x : Int) (w : World) : Calls Tryz.prog 71 #[.int .i64 x] w (fun e w' => e = .returned (.bool (decide (60 < x))) ∧ w' = w) := by
  by_cases h : 60 < x
  · have e : decide (60 < x) = true := decide_eq_true h
    rw [e]
    go_enter Tryz.func71, Tryz.ntmps71
    go_wp2
    go_ret
    exact ⟨rfl, rfl⟩
  · have e : decide (60 < x) = false := decide_eq_false h
    rw [e]
    go_enter Tryz.func71, Tryz.ntmps71
    go_wp2
    go_ret
    exact ⟨rfl, rfl⟩

/-- slices.IndexFunc with it: a place from 0 on just if one is far. -/
theorem farix_any (A : Option Addr) (c : Nat) (xs : List Int) (r : Bool) (hr : r = xs.any fun x => decide (60 < x)) (hl : xs.length ≤ 1000) (w : World) (hs : At.Sl w w.heap.size .i64 A xs) :
    Calls Tryz.prog 75 #[.slice A xs.length c, .func (.func 71) #[] #[]] w (fun e w' => ∃ z : Int, e = .returned (.int .i64 z) ∧ (0 ≤ z ↔ r = true) ∧ w' = w) := by
  have HS := Lib.hid hs
  have HR := Lib.hid hr
  clear hs hr
  go_enter Tryz.func75, Tryz.ntmps75
  go_wp2
  go_loopg [8] xs.length (fun q t wr => ∃ k : Nat, k + q = xs.length ∧ t = .int .i64 (k : Int) ∧ wr = w ∧ Hid (∀ j x, j < k → xs[j]? = some x → ¬ 60 < x))
  case atStart => exact ⟨0, by omega, rfl, rfl, fun j x h => by omega⟩
  case round =>
    obtain ⟨k, hk, rfl, hW, hno⟩ := hrel
    subst hW
    by_cases hlt : k < xs.length
    · have hki : (k : Int) < (xs.length : Int) := by omega
      have hk0 : (0 : Int) ≤ (k : Int) := by omega
      obtain ⟨b, off, rfl, hb, q⟩ := HS.out.at_ hlt
      have HX : Hid (xs[k]? = some (xs.getD k 0)) := by
        show _ = _
        simp [List.getD, hlt]
      generalize xs.getD k 0 = x at *
      have HF := Lib.hid (far_any x wr)
      by_cases hx : 60 < x
      · rw [decide_eq_true hx] at HF
        have HA : Hid ((0 : Int) ≤ (k : Int) ↔ r = true) := ⟨fun _ => by rw [HR.out]; exact List.any_eq_true.2 ⟨x, List.mem_of_getElem? HX.out, decide_eq_true hx⟩, fun _ => hk0⟩
        clear hx
        go_wp2_with fail
        refine HF.out.mono ?_
        rintro e w1 ⟨rfl, rfl⟩
        go_wp2
        go_ret
        exact ⟨_, rfl, HA.out, rfl⟩
      · rw [decide_eq_false hx] at HF
        have HN : Hid (∀ j x, j < k + 1 → xs[j]? = some x → ¬ 60 < x) := fun j y hj hy => by
          rcases Nat.lt_or_ge j k with h | h
          · exact hno.out j y h hy
          · obtain rfl : j = k := by omega
            rw [HX.out] at hy
            cases hy
            exact hx
        clear hx
        go_wp2_with fail
        refine HF.out.mono ?_
        rintro e w1 ⟨rfl, rfl⟩
        go_wp2
        go_roundg (xs.length - (k + 1))
        case measure => omega
        case rel => exact ⟨k + 1, by omega, by go_num, by trivial, HN.out⟩
    · obtain rfl : k = xs.length := by omega
      have HA : Hid ((0 : Int) ≤ -1 ↔ r = true) := by
        show _ ↔ _
        rw [HR.out]
        constructor
        · intro h; omega
        · intro h
          obtain ⟨x, hx, h2⟩ := List.any_eq_true.1 h
          obtain ⟨i, hi⟩ := List.getElem?_of_mem hx
          exact absurd (of_decide_eq_true h2) (hno.out i x (List.getElem?_eq_some_iff.1 hi).1 hi)
      go_wp2
      go_ret
      exact ⟨-1, rfl, HA.out, rfl⟩
theorem farc_any (A : Option Addr) (c : Nat) (xs : List Int) (hl : xs.length ≤ 1000) (w : World) (hs : At.Sl w w.heap.size .i64 A xs) :
    Calls Tryz.prog 50 #[.slice A xs.length c, .func (.func 71) #[] #[]] w (fun e w' => e = .returned (.bool (xs.any fun x => decide (60 < x))) ∧ w' = w) := by
  have HF := Lib.hid (farix_any A c xs _ rfl hl w hs)
  generalize (xs.any fun x => decide (60 < x)) = r at *
  clear hs
  go_enter Tryz.func50, Tryz.ntmps50
  go_wp2_with fail
  refine HF.out.mono ?_
  rintro e w1 ⟨z, rfl, hz, rfl⟩
  rcases r with _ | _
  · have h : decide ((0 : Int) ≤ z) = false := decide_eq_false fun k => by have := hz.1 k; cases this
    clear hz
    go_wp2
    go_ret
    exact ⟨rfl, rfl⟩
  · have h : decide ((0 : Int) ≤ z) = true := decide_eq_true (hz.2 rfl)
    clear hz
    go_wp2
    go_ret
    exact ⟨rfl, rfl⟩

set_option maxHeartbeats 1000000 in
theorem near_any (n : No) (hl : n.d.length ≤ 1000) (w : World) (hs : At.Sl w w.heap.size .i64 n.h n.d) : Calls Tryz.prog 43 #[nv n] w (BoolPost w (nr n)) := by
  have HY := fun h1 h2 h3 h4 => Lib.hid (nr_dep (n := n) h1 h2 h3 h4)
  have HN := fun h => Lib.hid (nr_no1 (n := n) h)
  have B0 : Below w.heap.size w (w.alloc (no n)) := (Below.refl _ _).alloc (Nat.le_refl _) _
  have HC := Lib.hid (farc_any n.h n.c n.d hl (w.alloc (no n)) (hs.up B0))
  obtain ⟨b, s, q, d, h, c⟩ := n
  simp only [nv, no] at *
  generalize nr ⟨b, s, q, d, h, c⟩ = r at *
  by_cases h1 : 1 ≤ b
  · by_cases h2 : b ≤ 7
    · by_cases h3 : 1 ≤ s
      · by_cases h4 : s ≤ 60
        · have HR := HY h1 h2 h3 h4
          generalize (d.any fun x => decide (60 < x)) = f at *
          clear HY HN hs
          rcases f with _ | _
          · obtain rfl := HR.out
            go_enter Tryz.func43, Tryz.ntmps43
            go_wp2_with fail
            refine HC.out.mono ?_
            rintro e w1 ⟨rfl, rfl⟩
            go_wp2
            go_ret
            exact ⟨rfl, B0⟩
          · obtain rfl := HR.out
            go_enter Tryz.func43, Tryz.ntmps43
            go_wp2_with fail
            refine HC.out.mono ?_
            rintro e w1 ⟨rfl, rfl⟩
            go_wp2
            go_ret
            exact ⟨rfl, B0⟩
        · obtain rfl := (HN (by omega)).out
          have d4 : decide (s ≤ 60) = false := decide_eq_false h4
          clear HY HN hs HC
          go_enter Tryz.func43, Tryz.ntmps43
          go_wp2
          go_ret
          exact ⟨rfl, B0⟩
      · obtain rfl := (HN (by omega)).out
        have d3 : decide (1 ≤ s) = false := decide_eq_false h3
        clear HY HN hs HC
        go_enter Tryz.func43, Tryz.ntmps43
        go_wp2
        go_ret
        exact ⟨rfl, B0⟩
    · obtain rfl := (HN (by omega)).out
      have d2 : decide (b ≤ 7) = false := decide_eq_false h2
      clear HY HN hs HC
      go_enter Tryz.func43, Tryz.ntmps43
      go_wp2
      go_ret
      exact ⟨rfl, B0⟩
  · obtain rfl := (HN (by omega)).out
    have d1 : decide (1 ≤ b) = false := decide_eq_false h1
    clear HY HN hs HC
    go_enter Tryz.func43, Tryz.ntmps43
    go_wp2
    go_ret
    exact ⟨rfl, B0⟩

set_option maxHeartbeats 1000000 in
theorem rnear_any (n : No) (hl : n.d.length ≤ 1000) (w : World) (hs : At.Sl w w.heap.size .i64 n.h n.d) : Calls Tryz.prog 40 #[nv n] w (BoolPost w (nr n)) := by
  have HY : Hid ((∀ x ∈ n.d, ¬ 60 < x) → nr n = decide (1 ≤ n.b ∧ n.b ≤ 7 ∧ 1 ≤ n.s ∧ n.s ≤ 60)) := fun h => by
    rw [Bool.eq_iff_iff, nr_iff, decide_eq_true_iff]
    exact ⟨fun k => ⟨k.1, k.2.1, k.2.2.1, k.2.2.2.1⟩, fun k => ⟨k.1, k.2.1, k.2.2.1, k.2.2.2, fun x hx => by have := h x hx; omega⟩⟩
  have HN : Hid ((∃ x ∈ n.d, 60 < x) → nr n = false) := fun ⟨x, hx, h⟩ => by
    rw [Bool.eq_false_iff]; intro k
    have := (nr_iff.1 k).2.2.2.2 x hx
    omega
  have B0 : Below w.heap.size w (w.alloc (no n)) := (Below.refl _ _).alloc (Nat.le_refl _) _
  have HS := Lib.hid (hs.up B0)
  have N0 := nb_new w n
  obtain ⟨b, s, q, d, h, c⟩ := n
  simp only [nv, no] at *
  generalize nr ⟨b, s, q, d, h, c⟩ = r at *
  clear hs
  go_enter Tryz.func40, Tryz.ntmps40
  go_wp2
  generalize w.alloc (.cells #[.int .i64 b, .int .i64 s, .int .i64 q, .slice h d.length c] 30) = W0 at *
  obtain ⟨p0, p1, p2, p3⟩ := N0.nr
  go_loopg [3] d.length (fun g t wr => ∃ k : Nat, k + g = d.length ∧ t = .int .i64 (k : Int) ∧ wr = W0 ∧ Hid (∀ j x, j < k → d[j]? = some x → ¬ 60 < x))
  case atStart => exact ⟨0, by omega, rfl, rfl, fun j x h => by omega⟩
  case round =>
    obtain ⟨k, hk, rfl, hW, hno⟩ := hrel
    subst hW
    by_cases hlt : k < d.length
    · have hki : (k : Int) < (d.length : Int) := by omega
      have hk0 : (0 : Int) ≤ (k : Int) := by omega
      obtain ⟨B, off, rfl, hb, e⟩ := HS.out.at_ hlt
      have HX : Hid (d[k]? = some (d.getD k 0)) := by
        show _ = _
        simp [List.getD, hlt]
      generalize d.getD k 0 = x at *
      by_cases hx : 60 < x
      · obtain rfl := HN.out ⟨x, List.mem_of_getElem? HX.out, hx⟩
        clear HY HN
        go_wp2
        go_ret
        exact ⟨rfl, B0⟩
      · have HN2 : Hid (∀ j x, j < k + 1 → d[j]? = some x → ¬ 60 < x) := fun j y hj hy => by
          rcases Nat.lt_or_ge j k with h | h
          · exact hno.out j y h hy
          · obtain rfl : j = k := by omega
            rw [HX.out] at hy
            cases hy
            exact hx
        have hd : decide (60 < x) = false := decide_eq_false hx
        clear hx
        go_wp2
        go_roundg (d.length - (k + 1))
        case measure => omega
        case rel => exact ⟨k + 1, by omega, by go_num, by trivial, HN2.out⟩
    · obtain rfl : k = d.length := by omega
      have HR := Lib.hid (HY.out fun x hx => by
        obtain ⟨i, hi⟩ := List.getElem?_of_mem hx
        have := hno.out i x (List.getElem?_eq_some_iff.1 hi).1 hi
        omega)
      clear HY HN hno
      by_cases h1 : 1 ≤ b
      · by_cases h2 : b ≤ 7
        · by_cases h3 : 1 ≤ s
          · have e4 : Hid (r = decide (s ≤ 60)) := by
              show _ = _
              rw [HR.out]
              simp [h1, h2, h3]
            obtain rfl := e4.out
            clear HR
            go_wp2
            go_ret
            exact ⟨rfl, B0⟩
          · obtain rfl : r = false := by rw [HR.out]; exact decide_eq_false (fun k => h3 k.2.2.1)
            have d3 : decide (1 ≤ s) = false := decide_eq_false h3
            clear HR
            go_wp2
            go_ret
            exact ⟨rfl, B0⟩
        · obtain rfl : r = false := by rw [HR.out]; exact decide_eq_false (fun k => h2 k.2.1)
          have d2 : decide (b ≤ 7) = false := decide_eq_false h2
          clear HR
          go_wp2
          go_ret
          exact ⟨rfl, B0⟩
      · obtain rfl : r = false := by rw [HR.out]; exact decide_eq_false (fun k => h1 k.1)
        have d1 : decide (1 ≤ b) = false := decide_eq_false h1
        clear HR
        go_wp2
        go_ret
        exact ⟨rfl, B0⟩
end Go.Proofs.YtgpciipemgljcaaGreat.Od

/-
  What was handed in, as maps: words; the walk of order's knows. Conditions: the maps are made; the instance's numbers are ones that an int holds.
-/
namespace Go.Proofs.YtgpciipemgljcaaGreat.Od
open Go.RowKit Go.MapKept
open Go.ChangeMaps (setBlock heap_setBlock_same heap_setBlock_other)
set_option linter.unusedVariables false

/-- 'v, ok := m[k]'. -/
theorem Mo.look2 {α : Type} {d : Kd α} (G : d.Good) {o f c} (h : Mo d o f c) {a : α} (ha : d.ok a) {t e : TypeId} {z : Value} (ht : Tryz.prog.underlying t = some (.map d.k e)) (hz : ∀ W, (zeroValue e).run Tryz.prog W = .ok z W) (b : Nat) (W : World) (hW : W.heap[b]? = o) :
    (Instr.lookup t (.map (some b)) (d.val a) true).run Tryz.prog W = .ok (.tuple #[(f a).getD z, .bool (f a).isSome]) W := by
  obtain ⟨es, clock, rfl, E, _⟩ := h
  obtain ⟨l, hl⟩ := G.key a ha
  rcases E.find G ha with ⟨h1, _, h3⟩ | ⟨j, e0, h1, _, _, h3⟩
  · simp [Instr.lookup, run_underlying ht, MapKept.run_getObj_map hW, G.law.check W _ hl, h3, hz, Result.andThen, h1]
  · simp [Instr.lookup, run_underlying ht, MapKept.run_getObj_map hW, G.law.check W _ hl, h3, Result.andThen, h1]

abbrev tv (K D : Nat) : Value := .agg #[.map (some K), .map (some D)]
/-- The nodes that count, and what is done, in two maps. -/
structure Td (w : World) (K D : Nat) (cf : Is → Option No) (Dn : List Is) : Prop where
  k : ∃ c, Mo dI w.heap[K]? (fun i => (cf i).map nv) c
  d : ∃ c, Mo dI w.heap[D]? (fun i => if i ∈ Dn then some (.agg #[]) else none) c
theorem mo_lt {α : Type} {d : Kd α} {w : World} {b : Nat} {f : α → Option Value} {c : Nat} (h : Mo d w.heap[b]? f c) : b < w.heap.size := by
  obtain ⟨es, clock, hh, _⟩ := h
  rcases Nat.lt_or_ge b w.heap.size with hl | hl
  · exact hl
  · rw [Array.getElem?_eq_none hl] at hh; cases hh
section
variable {w w' : World} {K D B : Nat} {cf : Is → Option No} {Dn : List Is}
theorem Td.kl (h : Td w K D cf Dn) : K < w.heap.size := by obtain ⟨c, h⟩ := h.k; exact mo_lt h
theorem Td.dl (h : Td w K D cf Dn) : D < w.heap.size := by obtain ⟨c, h⟩ := h.d; exact mo_lt h
theorem Td.same (h : Td w K D cf Dn) (hk : w'.heap[K]? = w.heap[K]?) (hd : w'.heap[D]? = w.heap[D]?) : Td w' K D cf Dn := ⟨by rw [hk]; exact h.k, by rw [hd]; exact h.d⟩
theorem Td.on (h : Td w K D cf Dn) (hb : Below B w w') (hk : K < B) (hd : D < B) : Td w' K D cf Dn := h.same (hb.block K hk) (hb.block D hd)
theorem Td.up (h : Td w K D cf Dn) (hb : Below w.heap.size w w') : Td w' K D cf Dn := h.on hb h.kl h.dl
end
/-- Whether an instance is known. -/
def kw (cf : Is → Option No) (Dn : List Is) (i : Is) : Bool := (cf i).isSome || decide (i ∈ Dn)

set_option maxHeartbeats 1000000 in
theorem knows_any (K D : Nat) (cf : Is → Option No) (Dn : List Is) (i : Is) (hi : fi i) (w : World) (h : Td w K D cf Dn) : Calls Tryz.prog 44 #[tv K D, iv i] w (BoolPost w (kw cf Dn i)) := by
  have B0 : Below w.heap.size w ((w.alloc (.cells #[.map (some K), .map (some D)] 51)).alloc (io i)) := ((Below.refl _ _).alloc (Nat.le_refl _) _).alloc (by simp) _
  have T0 := h.up B0
  obtain ⟨u, v⟩ := i
  simp only [io] at *
  obtain ⟨ck, hk⟩ := T0.k
  obtain ⟨cd, hd⟩ := T0.d
  have hkl := T0.kl
  have hdl := T0.dl
  have E1 := hk.look2 goodI (a := (u, v)) hi (t := 48) (e := 30) Tryz.underlying48 Tryz.zeroValue30 K
  have E2 := hd.look2 goodI (a := (u, v)) hi (t := 49) (e := 73) Tryz.underlying49 Tryz.zeroValue73 D
  have HR : Hid (kw cf Dn (u, v) = ((cf (u, v)).isSome || decide ((u, v) ∈ Dn))) := rfl
  generalize kw cf Dn (u, v) = r at *
  have F1 : (Instr.lookup 48 (.map (some K)) (.agg #[.int .i64 u, .int .i64 v]) true).run Tryz.prog ((w.alloc (.cells #[.map (some K), .map (some D)] 51)).alloc (.cells #[.int .i64 u, .int .i64 v] 25)) = .ok (.tuple #[((cf (u, v)).map nv).getD (.agg #[.int .i64 0, .int .i64 0, .int .i64 0, .slice none 0 0]), .bool ((cf (u, v)).map nv).isSome]) ((w.alloc (.cells #[.map (some K), .map (some D)] 51)).alloc (.cells #[.int .i64 u, .int .i64 v] 25)) := E1 _ rfl
  have F2 : ∀ o, (Instr.lookup 49 (.map (some D)) (.agg #[.int .i64 u, .int .i64 v]) true).run Tryz.prog (((w.alloc (.cells #[.map (some K), .map (some D)] 51)).alloc (.cells #[.int .i64 u, .int .i64 v] 25)).alloc o) = .ok (.tuple #[.agg #[], .bool (decide ((u, v) ∈ Dn))]) (((w.alloc (.cells #[.map (some K), .map (some D)] 51)).alloc (.cells #[.int .i64 u, .int .i64 v] 25)).alloc o) := fun o => by
    have := E2 (((w.alloc (.cells #[.map (some K), .map (some D)] 51)).alloc (.cells #[.int .i64 u, .int .i64 v] 25)).alloc o) (heap_alloc_old _ _ hdl)
    by_cases hm : (u, v) ∈ Dn
    · simpa [hm, dI] using this
    · simpa [hm, dI] using this
  have BE : ∀ o o', Below w.heap.size w ((((w.alloc (.cells #[.map (some K), .map (some D)] 51)).alloc (.cells #[.int .i64 u, .int .i64 v] 25)).alloc o).alloc o') := fun o o' => (B0.alloc (by simp; omega) o).alloc (by simp; omega) o'
  clear E1 E2 hk hd h T0 B0 hkl hdl
  generalize (decide ((u, v) ∈ Dn)) = rd at *
  rcases hc : cf (u, v) with _ | n
  · rw [hc] at F1 HR
    simp only [Option.map_none, Option.getD_none, Option.isSome_none, Bool.false_or] at F1 HR
    obtain rfl := HR.out
    go_enter Tryz.func44, Tryz.ntmps44
    go_wp2
    go_ret
    exact ⟨rfl, BE _ _⟩
  · rw [hc] at F1 HR
    simp only [Option.map_some, Option.getD_some, Option.isSome_some, Bool.true_or] at F1 HR
    obtain rfl := HR.out
    go_enter Tryz.func44, Tryz.ntmps44
    go_wp2
    go_ret
    exact ⟨rfl, BE _ _⟩
end Go.Proofs.YtgpciipemgljcaaGreat.Od

/-
  The walks of the small functions: the dep of a replica (the program's and the document's), Few, May (both), longest. Conditions: of longest, at most 1000 attributes.
-/
namespace Go.Proofs.YtgpciipemgljcaaGreat.At
open Go.RowKit

theorem of_any (A : Option Addr) (c B : Nat) (xs : List Int) (k : Int) (w : World) (hs : Sl w B .i64 A xs) (hk : k ≤ 9223372036854775807) : Calls Tryz.prog 39 #[.slice A xs.length c, .int .i64 k] w fun e w' => e = .returned (.int .i64 (dp xs k)) ∧ w = w' := by
  by_cases h1 : k < 1
  · rw [dp_out (.inl h1)]
    go_enter Tryz.func39, Tryz.ntmps39
    go_wp2
    go_ret
    exact ⟨rfl, rfl⟩
  · by_cases h2 : (xs.length : Int) < k
    · rw [dp_out (.inr h2)]
      go_enter Tryz.func39, Tryz.ntmps39
      go_wp2
      go_ret
      exact ⟨rfl, rfl⟩
    · obtain ⟨i, rfl⟩ : ∃ i : Nat, k = (i : Int) + 1 := ⟨(k - 1).toNat, by omega⟩
      rw [dp_at]
      obtain ⟨b, off, rfl, hb, hc⟩ := hs.at_ (j := i) (by omega)
      have hi : (i : Int) + 1 - 1 = (i : Int) := by omega
      have hi' : i < xs.length := by omega
      generalize xs.getD i 0 = x at *
      go_enter Tryz.func39, Tryz.ntmps39
      go_wp2
      go_ret
      exact ⟨rfl, rfl⟩

theorem dep_any (a : Int) (A : Option Addr) (c B : Nat) (xs : List Int) (k : Int) (w : World) (hB : B ≤ w.heap.size) (hs : Sl w B .i64 A xs) (hk : k ≤ 9223372036854775807) : Calls Tryz.prog 95 #[.agg #[.int .i64 a, .slice A xs.length c], .int .i64 k] w (IntPost w (dp xs k)) := by
  by_cases h1 : k < 1
  · rw [dp_out (.inl h1)]
    go_enter Tryz.func95, Tryz.ntmps95
    go_wp2
    go_ret
    exact ⟨rfl, (Below.refl _ _).alloc (Nat.le_refl _) _⟩
  · by_cases h2 : (xs.length : Int) < k
    · rw [dp_out (.inr h2)]
      go_enter Tryz.func95, Tryz.ntmps95
      go_wp2
      go_ret
      exact ⟨rfl, (Below.refl _ _).alloc (Nat.le_refl _) _⟩
    · obtain ⟨i, rfl⟩ : ∃ i : Nat, k = (i : Int) + 1 := ⟨(k - 1).toNat, by omega⟩
      rw [dp_at]
      obtain ⟨b, off, rfl, hb, hc⟩ := hs.at_ (j := i) (by omega)
      have hi : (i : Int) + 1 - 1 = (i : Int) := by omega
      have hi' : i < xs.length := by omega
      have hb' : b < w.heap.size := by omega
      generalize xs.getD i 0 = x at *
      go_enter Tryz.func95, Tryz.ntmps95
      go_wp2
      go_ret
      exact ⟨rfl, (Below.refl _ _).alloc (Nat.le_refl _) _⟩

set_option maxHeartbeats 400000 in
theorem long_any (A : Option Addr) (c : Nat) (l : List (Int × List Int)) (w : World) (hl : l.length ≤ 1000) (hs : Rc w w.heap.size A l) : Calls Tryz.prog 66 #[.slice A l.length c] w (IntPost w (lg l)) := by
  go_enter Tryz.func66, Tryz.ntmps66
  go_wp2
  go_loopw [3, 8] (fun n i wr => ∃ k : Nat, k ≤ l.length ∧ n = .int .i64 (lg (l.take k) : Int) ∧ i = .int .i64 (k : Int) ∧ Below w.heap.size w wr) (fun _ i _ => l.length - (intOf i).toNat)
  case atStart => exact ⟨0, by omega, rfl, rfl, Below.refl _ _⟩
  case round =>
    obtain ⟨k, hk, rfl, rfl, hbel⟩ := hrel
    have hsz := hbel.size
    by_cases hlt : k < l.length
    · obtain ⟨b, off, A', c', rfl, hb, x0, x1, _⟩ := (hs.below hbel).at_ hlt
      have HL := Lib.hid (lg_take l k hlt)
      have hki : (k : Int) < (l.length : Int) := by omega
      generalize l[k] = r at *
      obtain ⟨a, xs⟩ := r
      simp only at x0 x1 HL
      generalize lg (l.take k) = m at *
      go_wp2
      go_roundw
      case rel => exact ⟨k + 1, by omega, by rw [HL.out]; congr 1; omega, by go_num, hbel.alloc hsz _⟩
      case measure => simp [intOf]; omega
    · obtain rfl : k = l.length := by omega
      rw [List.take_length]
      go_wp2
      go_ret
      exact ⟨rfl, hbel⟩

end Go.Proofs.YtgpciipemgljcaaGreat.At

/-
  The walks of the program's Same and Waits, and of the document's Waits. Conditions: at most 1000 deps.
-/
namespace Go.Proofs.YtgpciipemgljcaaGreat.At
open Go.RowKit

theorem keepI {w0 v v' : World} {B1 B2 : Nat} {a x y : Int} {A : Option Addr} {n c : Nat} (z1 : B1 < w0.heap.size) (z2 : B2 < w0.heap.size) (h : Rb v B1 a A n c ∧ Ib v B2 x y ∧ Below w0.heap.size w0 v) (hb : Below w0.heap.size v v') : Rb v' B1 a A n c ∧ Ib v' B2 x y ∧ Below w0.heap.size w0 v' :=
  ⟨h.1.on hb z1, h.2.1.on hb z2, h.2.2.trans hb⟩

set_option maxHeartbeats 800000 in
theorem waits_any (a x y : Int) (A : Option Addr) (c : Nat) (xs : List Int) (w : World) (hs : Sl w w.heap.size .i64 A xs) (hx : x ≤ 9223372036854775807) : Calls Tryz.prog 20 #[.agg #[.int .i64 a, .slice A xs.length c], .agg #[.int .i64 x, .int .i64 y]] w (BoolPost w (wt xs x y)) := by
  have BW : Below w.heap.size w ((w.alloc (.cells #[.int .i64 a, .slice A xs.length c] 28)).alloc (.cells #[.int .i64 x, .int .i64 y] 25)) := ((Below.refl _ _).alloc (Nat.le_refl _) _).alloc (by simp) _
  have Z0 : ((w.alloc (.cells #[.int .i64 a, .slice A xs.length c] 28)).alloc (.cells #[.int .i64 x, .int .i64 y] 25)).heap.size = w.heap.size + 1 + 1 := by simp
  have C0 : Rb ((w.alloc (.cells #[.int .i64 a, .slice A xs.length c] 28)).alloc (.cells #[.int .i64 x, .int .i64 y] 25)) w.heap.size a A xs.length c := (rb_new w a A xs.length c).on ((Below.refl _ _).alloc (Nat.le_refl _) _) (by simp)
  have D0 : Ib ((w.alloc (.cells #[.int .i64 a, .slice A xs.length c] 28)).alloc (.cells #[.int .i64 x, .int .i64 y] 25)) (w.heap.size + 1) x y := by
    have := ib_new (w.alloc (.cells #[.int .i64 a, .slice A xs.length c] 28)) x y
    rw [show (w.alloc (.cells #[.int .i64 a, .slice A xs.length c] 28)).heap.size = w.heap.size + 1 by simp] at this
    exact this
  have X0 := hs.to BW BW.size
  by_cases hy : 1 ≤ y
  · rw [wt_hi hy]
    have HO : ∀ n, Hid (Calls Tryz.prog 39 #[.slice A xs.length c, .int .i64 x] (((w.alloc (.cells #[.int .i64 a, .slice A xs.length c] 28)).alloc (.cells #[.int .i64 x, .int .i64 y] 25)).drewN n) fun e w' => e = .returned (.int .i64 (dp xs x)) ∧ w' = ((w.alloc (.cells #[.int .i64 a, .slice A xs.length c] 28)).alloc (.cells #[.int .i64 x, .int .i64 y] 25)).drewN n) := fun n => (of_any A c ((w.alloc (.cells #[.int .i64 a, .slice A xs.length c] 28)).alloc (.cells #[.int .i64 x, .int .i64 y] 25)).heap.size xs x _ (X0.below (below_drewN (Below.refl _ _) n)) hx).mono fun _ _ h => ⟨h.1, h.2.symm⟩
    go_enter Tryz.func20, Tryz.ntmps20
    go_wp2_with fail
    generalize ((w.alloc (.cells #[.int .i64 a, .slice A xs.length c] 28)).alloc (.cells #[.int .i64 x, .int .i64 y] 25)) = W0 at *
    generalize dp xs x = d at *
    obtain ⟨p0, p1⟩ := C0
    obtain ⟨r0, r1⟩ := D0
    have HZ0 := Lib.hid Z0
    clear Z0
    go_quiet ((go_at_call 39; refine Calls.quiet_of_same (HO _).out))
    go_wp2
    go_ret
    exact ⟨rfl, below_drewN BW _⟩
  · rw [wt_lo hy]
    have hd : decide ((1 : Int) ≤ y) = false := decide_eq_false hy
    clear hy
    go_enter Tryz.func20, Tryz.ntmps20
    go_wp2_with fail
    generalize ((w.alloc (.cells #[.int .i64 a, .slice A xs.length c] 28)).alloc (.cells #[.int .i64 x, .int .i64 y] 25)) = W0 at *
    obtain ⟨p0, p1⟩ := C0
    obtain ⟨r0, r1⟩ := D0
    have HZ0 := Lib.hid Z0
    clear Z0
    go_quiet (fail)
    go_wp2
    go_ret
    exact ⟨rfl, below_drewN BW _⟩

set_option maxHeartbeats 800000 in
theorem rwaits_any (a x y : Int) (A : Option Addr) (c : Nat) (xs : List Int) (w : World) (hs : Sl w w.heap.size .i64 A xs) (hx : x ≤ 9223372036854775807) : Calls Tryz.prog 61 #[.agg #[.int .i64 a, .slice A xs.length c], .agg #[.int .i64 x, .int .i64 y]] w (BoolPost w (wt xs x y)) := by
  have BW : Below w.heap.size w ((w.alloc (.cells #[.int .i64 a, .slice A xs.length c] 28)).alloc (.cells #[.int .i64 x, .int .i64 y] 25)) := ((Below.refl _ _).alloc (Nat.le_refl _) _).alloc (by simp) _
  have Z0 : ((w.alloc (.cells #[.int .i64 a, .slice A xs.length c] 28)).alloc (.cells #[.int .i64 x, .int .i64 y] 25)).heap.size = w.heap.size + 1 + 1 := by simp
  have C0 : Rb ((w.alloc (.cells #[.int .i64 a, .slice A xs.length c] 28)).alloc (.cells #[.int .i64 x, .int .i64 y] 25)) w.heap.size a A xs.length c := (rb_new w a A xs.length c).on ((Below.refl _ _).alloc (Nat.le_refl _) _) (by simp)
  have D0 : Ib ((w.alloc (.cells #[.int .i64 a, .slice A xs.length c] 28)).alloc (.cells #[.int .i64 x, .int .i64 y] 25)) (w.heap.size + 1) x y := by
    have := ib_new (w.alloc (.cells #[.int .i64 a, .slice A xs.length c] 28)) x y
    rw [show (w.alloc (.cells #[.int .i64 a, .slice A xs.length c] 28)).heap.size = w.heap.size + 1 by simp] at this
    exact this
  have X0 := hs.to BW BW.size
  by_cases hy : 1 ≤ y
  · rw [wt_hi hy]
    have HO : ∀ W, Sl W W.heap.size .i64 A xs → Hid (Calls Tryz.prog 95 #[.agg #[.int .i64 a, .slice A xs.length c], .int .i64 x] W (IntPost W (dp xs x))) := fun W h => dep_any a A c W.heap.size xs x W (Nat.le_refl _) h hx
    go_enter Tryz.func61, Tryz.ntmps61
    go_wp2_with fail
    generalize ((w.alloc (.cells #[.int .i64 a, .slice A xs.length c] 28)).alloc (.cells #[.int .i64 x, .int .i64 y] 25)) = W0 at *
    generalize dp xs x = d at *
    have z1 : w.heap.size < W0.heap.size := by omega
    have z2 : w.heap.size + 1 < W0.heap.size := by omega
    have S0 : Rb W0 w.heap.size a A xs.length c ∧ Ib W0 (w.heap.size + 1) x y ∧ Below W0.heap.size W0 W0 := ⟨C0, D0, Below.refl _ _⟩
    have KD : Hid (∀ v, (Rb v w.heap.size a A xs.length c ∧ Ib v (w.heap.size + 1) x y ∧ Below W0.heap.size W0 v) → (Rb v.drew w.heap.size a A xs.length c ∧ Ib v.drew (w.heap.size + 1) x y ∧ Below W0.heap.size W0 v.drew)) := fun v hS => keepI z1 z2 hS ((Below.refl _ _).drew)
    have KS : Hid (∀ v v', Below v.heap.size v v' → (Rb v w.heap.size a A xs.length c ∧ Ib v (w.heap.size + 1) x y ∧ Below W0.heap.size W0 v) → (Rb v' w.heap.size a A xs.length c ∧ Ib v' (w.heap.size + 1) x y ∧ Below W0.heap.size W0 v')) := fun v v' hb hS => keepI z1 z2 hS (hb.mono hS.2.2.size)
    have HO2 : ∀ W, (Rb W w.heap.size a A xs.length c ∧ Ib W (w.heap.size + 1) x y ∧ Below W0.heap.size W0 W) → Hid (Calls Tryz.prog 95 #[.agg #[.int .i64 a, .slice A xs.length c], .int .i64 x] W (IntPost W d)) := fun W hS => HO W (X0.up hS.2.2)
    have HZ0 := Lib.hid Z0
    obtain ⟨p0, p1⟩ := C0
    obtain ⟨r0, r1⟩ := D0
    clear Z0 HO X0 hs
    go_region_held3 (fun v => (v.cell? ⟨w.heap.size, 0, none⟩ = some (.int .i64 a) ∧ v.cell? ⟨w.heap.size, 1, none⟩ = some (.slice A xs.length c)) ∧ (v.cell? ⟨w.heap.size + 1, 0, none⟩ = some (.int .i64 x) ∧ v.cell? ⟨w.heap.size + 1, 1, none⟩ = some (.int .i64 y)) ∧ Below W0.heap.size W0 v)
      (first | (exact S0) | (exact KD.out _ S0) | (refine KS.out _ _ hb1 ?_; first | assumption | exact KD.out _ S0) | (refine KD.out _ ?_; assumption))
      (first | (go_at_call 95; (with_reducible refine (HO2 _ ?_).out.mono ?_); (focus (first | assumption | exact KD.out _ S0)); rintro e wa ⟨rfl, hb1⟩))
    rename_i hSx
    have BE := BW.trans (hSx.2.2.mono BW.size)
    go_wp2
    go_ret
    exact ⟨rfl, BE⟩
  · rw [wt_lo hy]
    have hd : decide ((1 : Int) ≤ y) = false := decide_eq_false hy
    clear hy
    go_enter Tryz.func61, Tryz.ntmps61
    go_wp2_with fail
    generalize ((w.alloc (.cells #[.int .i64 a, .slice A xs.length c] 28)).alloc (.cells #[.int .i64 x, .int .i64 y] 25)) = W0 at *
    obtain ⟨p0, p1⟩ := C0
    obtain ⟨r0, r1⟩ := D0
    have HZ0 := Lib.hid Z0
    clear Z0
    go_quiet (fail)
    go_wp2
    go_ret
    exact ⟨rfl, below_drewN BW _⟩

end Go.Proofs.YtgpciipemgljcaaGreat.At

/-
  The walk of the iterator over the instances that an attribute waits for and that are not known, and its contract. Conditions: at most 1000 deps, each at most 1000.
-/
namespace Go.Proofs.YtgpciipemgljcaaGreat.Od
open Go.RowKit Go.Shelf
set_option linter.unusedVariables false
attribute [local go_sem] Oper.semAt_some

/-- What comes: of a replica's first slots those that are not known; of the first replicas. -/
def mqr (kn : Is → Bool) (a j : Nat) : List Is := (axr a j).filter fun i => !kn i
def mq (xs : List Int) (kn : Is → Bool) (k : Nat) : List Is := (List.range k).flatMap fun a => mqr kn a (xs.getD a 0).toNat
theorem mqr_yes {kn : Is → Bool} {a j : Nat} (h : kn ((a : Int) + 1, (j : Int) + 1) = true) : mqr kn a (j + 1) = mqr kn a j := by simp [mqr, axr_succ, h]
theorem mqr_no {kn : Is → Bool} {a j : Nat} (h : kn ((a : Int) + 1, (j : Int) + 1) = false) : mqr kn a (j + 1) = mqr kn a j ++ [((a : Int) + 1, (j : Int) + 1)] := by simp [mqr, axr_succ, h]
theorem mq_succ (xs : List Int) (kn : Is → Bool) (k : Nat) : mq xs kn (k + 1) = mq xs kn k ++ mqr kn k (xs.getD k 0).toNat := by simp [mq, List.range_succ]
theorem mqr_len (kn : Is → Bool) (a j : Nat) : (mqr kn a j).length ≤ j := by
  unfold mqr
  refine Nat.le_trans (List.length_filter_le _ _) ?_
  simp [axr]
theorem mq_len {xs : List Int} (kn : Is → Bool) (h : ∀ x ∈ xs, x ≤ 1000) : ∀ k, (mq xs kn k).length ≤ k * 1000 := by
  intro k
  induction k with
  | zero => simp [mq]
  | succ k ih =>
    rw [mq_succ, List.length_append]
    have h1 := mqr_len kn k (xs.getD k 0).toNat
    have h2 : xs.getD k 0 ≤ 1000 := by
      by_cases hk : k < xs.length
      · rw [List.getD_eq_getElem?_getD, List.getElem?_eq_getElem hk]; exact h _ (List.getElem_mem hk)
      · rw [At.getD_out (by omega)]; omega
    omega

/-- The closure's world. -/
structure Mi (W : World) (n₀ Ba Bt K D : Nat) (q : Int) (A : Option Addr) (c : Nat) (xs : List Int) (cf : Is → Option No) (Dn : List Is) : Prop where
  a : W.heap[Ba]? = some (.cells #[.int .i64 q, .slice A xs.length c] 28 (0, 0))
  t : W.heap[Bt]? = some (.cells #[.map (some K), .map (some D)] 51 (0, 0))
  td : Td W K D cf Dn
  s : At.Sl W n₀ .i64 A xs
  la : Ba < n₀
  lt : Bt < n₀
  lk : K < n₀
  ld : D < n₀
  sz : n₀ ≤ W.heap.size
theorem Mi.on {W W' : World} {n₀ Ba Bt K D : Nat} {q : Int} {A : Option Addr} {c : Nat} {xs : List Int} {cf : Is → Option No} {Dn : List Is} (h : Mi W n₀ Ba Bt K D q A c xs cf Dn) (hb : Below n₀ W W') : Mi W' n₀ Ba Bt K D q A c xs cf Dn :=
  ⟨(hb.block Ba h.la).trans h.a, (hb.block Bt h.lt).trans h.t, h.td.on hb h.lk h.ld, h.s.below hb, h.la, h.lt, h.lk, h.ld, Nat.le_trans h.sz hb.size⟩
theorem Mi.ca {W : World} {n₀ Ba Bt K D : Nat} {q : Int} {A : Option Addr} {c : Nat} {xs : List Int} {cf : Is → Option No} {Dn : List Is} (h : Mi W n₀ Ba Bt K D q A c xs cf Dn) : W.cell? ⟨Ba, 0, none⟩ = some (.int .i64 q) ∧ W.cell? ⟨Ba, 1, none⟩ = some (.slice A xs.length c) :=
  ⟨by rw [cell_of_row W Ba 0 _ 28 _ h.a]; rfl, by rw [cell_of_row W Ba 1 _ 28 _ h.a]; rfl⟩
theorem Mi.ct {W : World} {n₀ Ba Bt K D : Nat} {q : Int} {A : Option Addr} {c : Nat} {xs : List Int} {cf : Is → Option No} {Dn : List Is} (h : Mi W n₀ Ba Bt K D q A c xs cf Dn) : W.cell? ⟨Bt, 0, none⟩ = some (.map (some K)) ∧ W.cell? ⟨Bt, 1, none⟩ = some (.map (some D)) :=
  ⟨by rw [cell_of_row W Bt 0 _ 51 _ h.t]; rfl, by rw [cell_of_row W Bt 1 _ 51 _ h.t]; rfl⟩

/-- The row that the slice in box B lies in. -/
def rw_ (W : World) (B r : Nat) : Prop := ∃ a n c, W.cell? ⟨B, 0, none⟩ = some (.slice (some a) n c) ∧ a.block = r
/-- What a round keeps: all below n₀, and all cells but box B and the row that lies there; that row grows, or is new. -/
structure Kr (n₀ B : Nat) (W W' : World) : Prop where
  b : Below n₀ W W'
  k : ∀ r cs t, W.heap[r]? = some (.cells cs t (0, 0)) → r ≠ B → ¬ rw_ W B r → W'.heap[r]? = some (.cells cs t (0, 0))
  r : ∀ r, rw_ W' B r → rw_ W B r ∨ (W.heap.size ≤ r ∧ r < W'.heap.size)
theorem kr_t {n₀ B : Nat} {A C D : World} (h : Kr n₀ B A C) (k : Kr n₀ B C D) : Kr n₀ B A D := by
  refine ⟨h.b.trans k.b, fun r cs t hr hn hw => ?_, fun r hr => ?_⟩
  · have hl : r < A.heap.size := (Array.getElem?_eq_some_iff.1 hr).1
    refine k.k r cs t (h.k r cs t hr hn hw) hn fun hc => ?_
    rcases h.r r hc with h1 | h1
    · exact hw h1
    · omega
  · rcases k.r r hr with h1 | h1
    · rcases h.r r h1 with h2 | h2
      · exact .inl h2
      · exact .inr ⟨h2.1, Nat.lt_of_lt_of_le h2.2 k.b.size⟩
    · exact .inr ⟨Nat.le_trans h.b.size h1.1, h1.2⟩
theorem kr_b {n₀ B : Nat} {w : World} (hn : n₀ ≤ w.heap.size) (hB : B < w.heap.size) (W : World) (l : Nat) (o o' : Obj) (hl : w.heap.size ≤ l) (h : W.heap[l]? = some o) (h1 : o.isCells = false) (h2 : o.isWalk = false) : Kr n₀ B W (W.putObj l o') := by
  refine ⟨belowK_b hn W l o o' hl h h1 h2, fun r cs t hr hne hw => ?_, fun r hr => .inl ?_⟩
  · rw [World.putObj_heap_other (fun e => by subst e; rw [hr] at h; cases h; cases h1)]
    exact hr
  · obtain ⟨a, n, c, hc, e⟩ := hr
    exact ⟨a, n, c, (World.cell?_of_block (a := ⟨B, 0, none⟩) (World.putObj_heap_other (fun e : B = l => by omega))).symm.trans hc, e⟩
theorem rw_same {W W' : World} {B : Nat} (h : W'.heap[B]? = W.heap[B]?) (r : Nat) : rw_ W' B r ↔ rw_ W B r := by
  have e := World.cell?_of_block (w := W) (w' := W') (a := ⟨B, 0, none⟩) h
  unfold rw_
  rw [e]
/-- Box B, and its row, are there. -/
structure Mk (W : World) (B : Nat) : Prop where
  l : B < W.heap.size
  r : ∀ r, rw_ W B r → r < W.heap.size
theorem Mk.below {W W' : World} {B : Nat} (h : Mk W B) (hb : Below W.heap.size W W') : Mk W' B :=
  ⟨Nat.lt_of_lt_of_le h.l hb.size, fun r hr => Nat.lt_of_lt_of_le (h.r r ((rw_same (hb.block B h.l) r).1 hr)) hb.size⟩
theorem Mk.kr {W W' : World} {n₀ B : Nat} (h : Mk W B) (k : Kr n₀ B W W') : Mk W' B :=
  ⟨Nat.lt_of_lt_of_le h.l k.b.size, fun r hr => by
    rcases k.r r hr with h1 | h1
    · exact Nat.lt_of_lt_of_le (h.r r h1) k.b.size
    · exact h1.2⟩
/-- The loop's own instance, in a box apart from these. -/
structure Jq (W : World) (B Bi : Nat) (i : Is) : Prop where
  j : Jb W Bi i
  n : Bi ≠ B
  r : ¬ rw_ W B Bi
theorem Jq.below {W W' : World} {B Bi : Nat} {i : Is} (h : Jq W B Bi i) (m : Mk W B) (hb : Below W.heap.size W W') : Jq W' B Bi i :=
  ⟨h.j.on hb h.j.lt, h.n, fun k => h.r ((rw_same (hb.block B m.l) Bi).1 k)⟩
theorem Jq.kr {W W' : World} {n₀ B Bi : Nat} {i : Is} (h : Jq W B Bi i) (k : Kr n₀ B W W') : Jq W' B Bi i :=
  ⟨k.k Bi _ 25 h.j h.n h.r, h.n, fun c => by
    have := h.j.lt
    rcases k.r Bi c with h1 | h1
    · exact h.r h1
    · omega⟩
theorem jq_new {W W' : World} {B : Nat} {i : Is} (m : Mk W B) (hb : Below W.heap.size W W') (h : Jb W' W.heap.size i) : Jq W' B W.heap.size i :=
  ⟨h, fun e => by have := m.l; omega, fun k => by have := m.r _ ((rw_same (hb.block B m.l) _).1 k); omega⟩
theorem mem_mq {xs : List Int} {kn : Is → Bool} {k : Nat} {i : Is} : i ∈ mq xs kn k ↔ (1 ≤ i.1 ∧ i.1 ≤ (k : Int) ∧ 1 ≤ i.2 ∧ i.2 ≤ xs.getD (i.1 - 1).toNat 0) ∧ kn i = false := by
  simp only [mq, mqr, List.mem_flatMap, List.mem_range, List.mem_filter, mem_axr, Bool.not_eq_true']
  constructor
  · rintro ⟨a, ha, ⟨h1, h2, h3⟩, h4⟩
    have e : (i.1 - 1).toNat = a := by omega
    rw [e]
    exact ⟨⟨by omega, by omega, h2, by omega⟩, h4⟩
  · rintro ⟨⟨h1, h2, h3, h4⟩, h5⟩
    exact ⟨(i.1 - 1).toNat, by omega, ⟨by omega, h3, by omega⟩, h5⟩

set_option maxRecDepth 100000 in
set_option maxHeartbeats 4000000 in
theorem mi_in (m : Nat) (hm : 1 ≤ m) (l n₀ B Ba Bt K D : Nat) (q : Int) (A : Option Addr) (c : Nat) (xs : List Int) (cf : Is → Option No) (Dn : List Is) (hl : xs.length ≤ 1000) (hx : ∀ x ∈ xs, x ≤ 1000) (J Jx : List Is → World → Prop)
    (hJ : ∀ s W W', J s W → Below W.heap.size W W' → J s W')
    (hY : ∀ pre x W, J pre W → pre.length < 1000000 → YieldAt Fence.wide (m - 1) Tryz.prog l #[iv x] W fun e W' => (e = .returned (.bool true) ∧ J (pre ++ [x]) W' ∧ Kr n₀ B W W') ∨ (e = .returned (.bool false) ∧ Jx (pre ++ [x]) W'))
    (W : World) (hM : Mi W n₀ Ba Bt K D q A c xs cf Dn) (hm0 : Mk W B) (h0 : J [] W) :
    CallsIn Fence.wide m Tryz.prog 65 #[.func (.yield l) #[] #[], .pointer (some ⟨Ba, 0, none⟩), .pointer (some ⟨Bt, 0, none⟩)] W fun e W' => (∃ v, e = .returned v) ∧ ((∃ ys, ys = mq xs (kw cf Dn) xs.length ∧ J ys W') ∨ (∃ pre, (∃ x, x ∈ mq xs (kw cf Dn) xs.length) ∧ Jx pre W')) := by
  obtain ⟨a0, a1⟩ := hM.ca
  have HJ := Lib.hid hJ
  have HY := Lib.hid hY
  have HX := Lib.hid hx
  have HM := Lib.hid hM
  clear hM hJ hY hx
  refine callsIn_of_wp Tryz.func65 rfl trivial ?_ rfl
  simp only [Tryz.ntmps65, List.size_toArray, List.length_cons, List.length_nil, Nat.reduceAdd, Nat.reduceSub, Array.replicate_succ, Array.replicate_zero, List.push_toArray, List.append_toArray, List.nil_append, List.cons_append]
  gi_wp2
  gi_loopw [9] (fun t wr => ∃ k : Nat, k ≤ xs.length ∧ t = .int .i64 (k : Int) ∧ J (mq xs (kw cf Dn) k) wr ∧ Hid (Mi wr n₀ Ba Bt K D q A c xs cf Dn) ∧ Hid (Mk wr B)) (fun t _ => xs.length - (intOf t).toNat)
  case atStart => exact ⟨0, Nat.zero_le _, rfl, h0, HM.out, hm0⟩
  case round =>
    obtain ⟨k, hk, rfl, hJs, hM, hMk⟩ := hrel
    clear a0 a1 HM h0 hm0
    by_cases hlt : k < xs.length
    · have hki : (k : Int) < (xs.length : Int) := by omega
      have hwk : IntKind.i64.wrap ((k : Int) + 1) = (k : Int) + 1 := IntWalk.i64_in _ (by omega)
      have hB0 : Below wr.heap.size wr (wr.alloc (.cells #[.int .i64 ((k : Int) + 1), .int .i64 1] 25)) := (Below.refl _ _).alloc (Nat.le_refl _) _
      have hJ0 := Lib.hid (HJ.out _ _ _ hJs hB0)
      have hM0 := Lib.hid (hM.out.on (hB0.mono hM.out.sz))
      have hMk0 := Lib.hid (hMk.out.below hB0)
      have hJb0 := Lib.hid (jq_new hMk.out hB0 (jb_new wr ((k : Int) + 1, 1)))
      have HS1 := Lib.hid (mq_succ xs (kw cf Dn) k)
      have HD : Hid (∀ s : Int, 1 ≤ s → At.wt xs ((k : Int) + 1) s = decide (s ≤ xs.getD k 0)) := fun s hs => by
        rw [At.wt_hi hs, At.dp_at]
      have HdX : Hid (xs.getD k 0 ≤ 1000) := by
        show _ ≤ _
        rw [List.getD_eq_getElem?_getD, List.getElem?_eq_getElem hlt]; exact HX.out _ (List.getElem_mem hlt)
      have HL := Lib.hid (mq_len (kw cf Dn) HX.out k)
      generalize hdd : xs.getD k 0 = d at *
      clear hJs hM hMk
      gi_wp2
      generalize wr.alloc (.cells #[.int .i64 ((k : Int) + 1), .int .i64 1] 25) = W0 at *
      gi_loopg [5] d.toNat (fun g t W => ∃ j Bi : Nat, j + g = d.toNat ∧ t = .pointer (some ⟨Bi, 0, none⟩) ∧ Hid (Jq W B Bi ((k : Int) + 1, (j : Int) + 1)) ∧ Hid (J (mq xs (kw cf Dn) k ++ mqr (kw cf Dn) k j) W) ∧ Hid (Mi W n₀ Ba Bt K D q A c xs cf Dn) ∧ Hid (Mk W B))
      case atStart => exact ⟨0, wr.heap.size, by omega, rfl, hJb0.out, (by show J _ _; simpa [mqr, axr_zero] using hJ0.out), hM0.out, hMk0.out⟩
      case round =>
        obtain ⟨j, Bi, hj, rfl, hJb, hJj, hMj, hMk⟩ := hrel
        clear hJb0 hJ0 hM0 hMk0 hB0
        obtain ⟨p0, p1⟩ := hJb.out.j.jr
        obtain ⟨a0, a1⟩ := hMj.out.ca
        obtain ⟨t0, t1⟩ := hMj.out.ct
        have HW := Lib.hid (At.waits_any q ((k : Int) + 1) ((j : Int) + 1) A c xs wr (hMj.out.s.mono hMj.out.sz) (by omega))
        have hwt := HD.out ((j : Int) + 1) (by omega)
        rw [hwt] at HW
        clear hwt
        by_cases hjt : j < d.toNat
        · have hle : decide ((j : Int) + 1 ≤ d) = true := decide_eq_true (by omega)
          rw [hle] at HW
          have hd1000 := HdX.out
          gi_wp2_with fail
          refine ⟨trivial, ?_⟩
          refine (callsIn_wide.2 HW.out).mono ?_
          clear hle
          rintro e w1 ⟨rfl, hb1⟩
          have hJb1 := Lib.hid (hJb.out.below hMk.out hb1)
          have hMk1 := Lib.hid (hMk.out.below hb1)
          have hJ1 := Lib.hid (HJ.out _ _ _ hJj.out hb1)
          have hM1 := Lib.hid (hMj.out.on (hb1.mono hMj.out.sz))
          clear p0 p1 a0 a1 t0 t1 hJb hJj hMj HW hMk
          obtain ⟨p0, p1⟩ := hJb1.out.j.jr
          obtain ⟨t0, t1⟩ := hM1.out.ct
          have HK := Lib.hid (knows_any K D cf Dn ((k : Int) + 1, (j : Int) + 1) ⟨⟨by simp only; omega, by simp only; omega⟩, ⟨by simp only; omega, by simp only; omega⟩⟩ w1 hM1.out.td)
          rcases hkw : kw cf Dn ((k : Int) + 1, (j : Int) + 1) with _ | _
          · rw [hkw] at HK
            have HQ := Lib.hid (mqr_no hkw)
            have HIn : Hid (∃ x, x ∈ mq xs (kw cf Dn) xs.length) := ⟨((k : Int) + 1, (j : Int) + 1), mem_mq.2 ⟨⟨by simp only; omega, by simp only; omega, by simp only; omega, by
              simp only
              rw [show ((k : Int) + 1 - 1).toNat = k by omega, hdd]
              omega⟩, hkw⟩⟩
            gi_wp2_with fail
            refine ⟨trivial, ?_⟩
            refine (callsIn_wide.2 HK.out).mono ?_
            clear hkw
            rintro e w2 ⟨rfl, hb2⟩
            have hJb2 := Lib.hid (hJb1.out.below hMk1.out hb2)
            have hMk2 := Lib.hid (hMk1.out.below hb2)
            have hJ2 := Lib.hid (HJ.out _ _ _ hJ1.out hb2)
            have hM2 := Lib.hid (hM1.out.on (hb2.mono hM1.out.sz))
            clear p0 p1 t0 t1 hJb1 hJ1 hM1 HK hMk1
            obtain ⟨p0, p1⟩ := hJb2.out.j.jr
            have hkl : (mq xs (kw cf Dn) k ++ mqr (kw cf Dn) k j).length < 1000000 := by
              rw [List.length_append]
              have h1 := HL.out
              have h2 := mqr_len (kw cf Dn) k j
              have h3 : k ≤ 999 := by omega
              omega
            obtain ⟨fn, tmps, assign, body, hy, hRd⟩ := HY.out _ ((k : Int) + 1, (j : Int) + 1) w2 hJ2.out hkl
            clear hkl
            gi_wp2
            refine hRd.mono ?_
            clear p0 p1 hy hRd
            rintro e W3 (⟨rfl, hJ3, hk3⟩ | ⟨rfl, hJx3⟩)
            · have hJb3 := Lib.hid (hJb2.out.kr hk3)
              have hMk3 := Lib.hid (hMk2.out.kr hk3)
              have hM3 := Lib.hid (hM2.out.on hk3.b)
              clear hJb2 hMk2 hJ2 hM2
              obtain ⟨p0, p1⟩ := hJb3.out.j.jr
              have hw : IntKind.i64.wrap ((j : Int) + 1 + 1) = (j : Int) + 1 + 1 := IntWalk.i64_in _ (by omega)
              gi_wp2
              have hbN : Below W3.heap.size W3 (W3.alloc (.cells #[.int .i64 ((k : Int) + 1), .int .i64 ((j : Int) + 1 + 1)] 25)) := (Below.refl _ _).alloc (Nat.le_refl _) _
              gi_roundg (d.toNat - (j + 1))
              case measure => omega
              case rel => exact ⟨j + 1, W3.heap.size, by omega, by trivial, jq_new hMk3.out hbN (jb_new W3 ((k : Int) + 1, (j : Int) + 1 + 1)), by rw [HQ.out, ← List.append_assoc]; exact HJ.out _ _ _ hJ3 hbN, hM3.out.on (hbN.mono hM3.out.sz), hMk3.out.below hbN⟩
            · gi_wp2
              refine bodyPost_ret (results_none rfl _ _ _) rfl ?_
              exact ⟨⟨_, rfl⟩, .inr ⟨_, HIn.out, hJx3⟩⟩
          · rw [hkw] at HK
            have HQ := Lib.hid (mqr_yes hkw)
            gi_wp2_with fail
            refine ⟨trivial, ?_⟩
            refine (callsIn_wide.2 HK.out).mono ?_
            clear hkw
            rintro e w2 ⟨rfl, hb2⟩
            have hJb2 := Lib.hid (hJb1.out.below hMk1.out hb2)
            have hMk2 := Lib.hid (hMk1.out.below hb2)
            have hJ2 := Lib.hid (HJ.out _ _ _ hJ1.out hb2)
            have hM2 := Lib.hid (hM1.out.on (hb2.mono hM1.out.sz))
            clear p0 p1 t0 t1 hJb1 hJ1 hM1 HK hMk1
            obtain ⟨p0, p1⟩ := hJb2.out.j.jr
            have hw : IntKind.i64.wrap ((j : Int) + 1 + 1) = (j : Int) + 1 + 1 := IntWalk.i64_in _ (by omega)
            gi_wp2
            refine ⟨fun _ h => (by cases h), ?_⟩
            gi_wp2
            have hbN : Below w2.heap.size w2 (w2.alloc (.cells #[.int .i64 ((k : Int) + 1), .int .i64 ((j : Int) + 1 + 1)] 25)) := (Below.refl _ _).alloc (Nat.le_refl _) _
            gi_roundg (d.toNat - (j + 1))
            case measure => omega
            case rel => exact ⟨j + 1, w2.heap.size, by omega, by trivial, jq_new hMk2.out hbN (jb_new w2 ((k : Int) + 1, (j : Int) + 1 + 1)), by rw [HQ.out]; exact HJ.out _ _ _ hJ2.out hbN, hM2.out.on (hbN.mono hM2.out.sz), hMk2.out.below hbN⟩
        · have hle : decide ((j : Int) + 1 ≤ d) = false := decide_eq_false (by omega)
          rw [hle] at HW
          gi_wp2_with fail
          refine ⟨trivial, ?_⟩
          refine (callsIn_wide.2 HW.out).mono ?_
          clear hle
          rintro e w1 ⟨rfl, hb1⟩
          obtain rfl : j = d.toNat := by omega
          have hMk1 := Lib.hid (hMk.out.below hb1)
          have hJ1 := Lib.hid (HJ.out _ _ _ hJj.out hb1)
          have hM1 := Lib.hid (hMj.out.on (hb1.mono hMj.out.sz))
          clear p0 p1 a0 a1 t0 t1 hJb hJj hMj HW hMk
          gi_wp2
          go_roundw
          case rel => exact ⟨k + 1, by omega, by go_num, by rw [HS1.out]; exact hJ1.out, hM1.out, hMk1.out⟩
          case measure => simp [intOf]; omega
    · obtain rfl : k = xs.length := by omega
      gi_wp2
      go_end0
      exact ⟨⟨_, rfl⟩, .inl ⟨_, rfl, hJs⟩⟩
end Go.Proofs.YtgpciipemgljcaaGreat.Od

/-
  The walks of order's missing (a closure in its boxes) and lacks. Conditions: at most 1000 deps, each at most 1000.
-/
namespace Go.Proofs.YtgpciipemgljcaaGreat.Od
open Go.RowKit Go.Shelf
set_option linter.unusedVariables false
attribute [local go_sem] Oper.semAt_some

theorem grown_none {W W' : World} (h : Below W.heap.size W W') : W.grownBy W' none := ⟨h.os, h.tape, h.output, h.size, fun k hk _ => h.block k hk⟩
/-- What is missing, told one by one: all, or some first ones where a round said 'no more'. -/
theorem mi_stops (m : Nat) (hm : 1 ≤ m) (n₀ B Ba Bt K D : Nat) (q : Int) (A : Option Addr) (c : Nat) (xs : List Int) (cf : Is → Option No) (Dn : List Is) (hl : xs.length ≤ 1000) (hx : ∀ x ∈ xs, x ≤ 1000) (w : World) (hM : Mi w n₀ Ba Bt K D q A c xs cf Dn) (hm0 : Mk w B) :
    SeqStopsK Fence.wide m Tryz.prog 65 #[.pointer (some ⟨Ba, 0, none⟩), .pointer (some ⟨Bt, 0, none⟩)] (fun i : Is => #[iv i]) (Kr n₀ B) (fun ys => ys = mq xs (kw cf Dn) xs.length) (fun _ => ∃ x, x ∈ mq xs (kw cf Dn) xs.length) 1000000 w := fun l J Jx W hW hJ hJx hY h0 =>
  mi_in m hm l n₀ B Ba Bt K D q A c xs cf Dn hl hx J Jx (fun s X Y h hb => hJ s X Y none h (grown_none hb) (fun r e => by cases e)) hY W (hM.on (hW.mono hM.sz)) (hm0.below hW) h0

theorem missing_any (K D : Nat) (q : Int) (A : Option Addr) (n c : Nat) (w : World) : Calls Tryz.prog 37 #[tv K D, .agg #[.int .i64 q, .slice A n c]] w (fun e w' => e = .returned (.func (.func 65) #[] #[.pointer (some ⟨w.heap.size + 1, 0, none⟩), .pointer (some ⟨w.heap.size, 0, none⟩)]) ∧ w' = (w.alloc (.cells #[.map (some K), .map (some D)] 51)).alloc (.cells #[.int .i64 q, .slice A n c] 28)) := by
  go_enter Tryz.func37, Tryz.ntmps37
  go_wp2
  go_ret
  exact ⟨rfl, rfl⟩

theorem res_lacks {V : World} {tm : Array Value} {B : Nat} {b : Bool} (h4 : tm[4]?.getD undef = .pointer (some ⟨B, 0, none⟩)) (hb : V.cell? ⟨B, 0, none⟩ = some (.bool b)) :
    (results Tryz.f49 tm).run Tryz.prog V = .ok (.bool b) V := by
  simp [results, Tryz.results49, h4, go_sem, hb]
theorem boxed_kept {W : World} {B : Nat} {t : TypeId} {v : Value} (h : Boxed W B t v) {D : Nat} {ob : Obj} (hK : W.heap[D]? = some ob) (hc : ob.isCells = false) (o' : Obj) : Boxed (W.putObj D o') B t v := by
  have hne : B ≠ D := fun e => by subst e; rw [show W.heap[B]? = _ from h] at hK; cases hK; cases hc
  exact (World.putObj_heap_other hne).trans h
theorem lay_old {w : World} {b : Nat} {o : Obj} (h : w.heap[b]? = some o) (o' : Obj) : (w.alloc o').heap[b]? = some o := (heap_alloc_old w o' (Array.getElem?_eq_some_iff.1 h).1).trans h

set_option maxRecDepth 100000 in
set_option maxHeartbeats 2000000 in
theorem lacks_any (K D : Nat) (n : No) (cf : Is → Option No) (Dn : List Is) (hl : n.d.length ≤ 1000) (hx : ∀ x ∈ n.d, x ≤ 1000) (w : World) (hT : Td w K D cf Dn) (hs : At.Sl w w.heap.size .i64 n.h n.d) :
    Calls Tryz.prog 49 #[tv K D, nv n] w (BoolPost w (!(mq n.d (kw cf Dn) n.d.length).isEmpty)) := by
  obtain ⟨nb, ns, nq, d, h, c⟩ := n
  simp only [nv] at *
  refine (callsIn_wide (n := 6)).1 ?_
  refine callsIn_of_wp_marks Tryz.func49 rfl trivial ?_ rfl
  simp only [Tryz.ntmps49, List.size_toArray, List.length_cons, List.length_nil, Nat.reduceAdd, Nat.reduceSub, Array.replicate_succ, Array.replicate_zero, List.push_toArray, List.append_toArray, List.nil_append, List.cons_append]
  gi_wp2_with fail
  refine ⟨trivial, ?_⟩
  refine (callsIn_wide.2 (missing_any K D nq h d.length c _)).mono ?_
  rintro e w' ⟨rfl, rfl⟩
  gi_wp2
  have b2 := (Boxed.new ((w.alloc (.cells #[.map (some K), .map (some D)] 51)).alloc (.cells #[.int .i64 nb, .int .i64 ns, .int .i64 nq, .slice h d.length c] 30)) 4 (.bool false))
  have b2' := (b2.alloc (.cells #[.map (some K), .map (some D)] 51)).alloc (.cells #[.int .i64 nq, .slice h d.length c] 28)
  have bT := lay_old (heap_alloc_new (((w.alloc (.cells #[.map (some K), .map (some D)] 51)).alloc (.cells #[.int .i64 nb, .int .i64 ns, .int .i64 nq, .slice h d.length c] 30)).alloc (.cells #[.bool false] 4)) (.cells #[.map (some K), .map (some D)] 51)) (.cells #[.int .i64 nq, .slice h d.length c] 28)
  have bA := heap_alloc_new ((((w.alloc (.cells #[.map (some K), .map (some D)] 51)).alloc (.cells #[.int .i64 nb, .int .i64 ns, .int .i64 nq, .slice h d.length c] 30)).alloc (.cells #[.bool false] 4)).alloc (.cells #[.map (some K), .map (some D)] 51)) (.cells #[.int .i64 nq, .slice h d.length c] 28)
  have B0 : Below w.heap.size w (((((w.alloc (.cells #[.map (some K), .map (some D)] 51)).alloc (.cells #[.int .i64 nb, .int .i64 ns, .int .i64 nq, .slice h d.length c] 30)).alloc (.cells #[.bool false] 4)).alloc (.cells #[.map (some K), .map (some D)] 51)).alloc (.cells #[.int .i64 nq, .slice h d.length c] 28)) := ((((((Below.refl w.heap.size w).alloc (Nat.le_refl _) _).alloc (by simp) _).alloc (by simp; omega) _).alloc (by simp; omega) _).alloc (by simp; omega) _)
  have sz : (((((w.alloc (.cells #[.map (some K), .map (some D)] 51)).alloc (.cells #[.int .i64 nb, .int .i64 ns, .int .i64 nq, .slice h d.length c] 30)).alloc (.cells #[.bool false] 4)).alloc (.cells #[.map (some K), .map (some D)] 51)).alloc (.cells #[.int .i64 nq, .slice h d.length c] 28)).heap.size = w.heap.size + 5 := by simp
  clear b2
  simp only [World.size_alloc] at b2' bT bA
  obtain ⟨W0, hW0⟩ : ∃ W0, (((((w.alloc (.cells #[.map (some K), .map (some D)] 51)).alloc (.cells #[.int .i64 nb, .int .i64 ns, .int .i64 nq, .slice h d.length c] 30)).alloc (.cells #[.bool false] 4)).alloc (.cells #[.map (some K), .map (some D)] 51)).alloc (.cells #[.int .i64 nq, .slice h d.length c] 28)) = W0 := ⟨_, rfl⟩
  rw [hW0] at b2' bT bA B0 sz ⊢
  clear hW0
  have hM : Mi W0 W0.heap.size (w.heap.size + 1 + 1 + 1 + 1) (w.heap.size + 1 + 1 + 1) K D nq h c d cf Dn := ⟨bA, bT, hT.up B0, hs.to B0 B0.size, by omega, by omega, by have := hT.kl; omega, by have := hT.dl; omega, Nat.le_refl _⟩
  have hMk : Mk W0 (w.heap.size + 1 + 1) := ⟨by omega, fun r hr => by
    obtain ⟨a, n, c, hc, _⟩ := hr
    rw [b2'.cell] at hc
    cases hc⟩
  have HL : Hid (∀ b, ((∃ x, x ∈ mq d (kw cf Dn) d.length) → b = true) → (mq d (kw cf Dn) d.length = [] → b = false) → (!(mq d (kw cf Dn) d.length).isEmpty) = b) := fun b h1 h2 => by
    rcases he : mq d (kw cf Dn) d.length with _ | ⟨y, r⟩
    · simp [h2 he]
    · simp [h1 ⟨y, by rw [he]; simp⟩]
  generalize (!(mq d (kw cf Dn) d.length).isEmpty) = rb at *
  refine wpIn_rangeFunc_ownG rfl (by omega) (gf := 65) (lb := #[.pointer (some ⟨w.heap.size + 1 + 1 + 1 + 1, 0, none⟩), .pointer (some ⟨w.heap.size + 1 + 1 + 1, 0, none⟩)]) rfl trivial (enters_of Tryz.func65 (by kernel_rfl) rfl)
    (mi_stops (6 - 1) (by omega) W0.heap.size (w.heap.size + 1 + 1) (w.heap.size + 1 + 1 + 1 + 1) (w.heap.size + 1 + 1 + 1) K D nq h c d cf Dn hl hx W0 hM hMk) kr_t (kr_b (Nat.le_refl _) (by omega)) (Below.refl _ _) (fun _ => rfl)
    (fun pre W => pre = [] ∧ Boxed W (w.heap.size + 1 + 1) 4 (.bool false) ∧ Below w.heap.size w W)
    (fun e pre W => e = .ret ∧ Boxed W (w.heap.size + 1 + 1) 4 (.bool true) ∧ Below w.heap.size w W)
    (OwnFrom.and (ownFrom_pure _ _) (OwnFrom.and (Own.from (boxed_own _ _ _) _) (ownFrom_below (Nat.le_refl _) (by omega))))
    (fun e s X Y row hs hg hr => ⟨hs.1, boxed_own _ _ (fun (_ : Unit) => .bool true) () X Y row hs.2.1 hg (fun r e => (hr r e).2), ownFrom_below (w₀ := w) (B := W0.heap.size) (Nat.le_refl _) (by omega) () X Y row hs.2.2 hg hr⟩)
    ⟨rfl, b2', B0⟩
    (fun x => { tmps := #[tv K D, .agg #[.int .i64 nb, .int .i64 ns, .int .i64 nq, .slice h d.length c], .pointer (some ⟨w.heap.size, 0, none⟩), .pointer (some ⟨w.heap.size + 1, 0, none⟩), .pointer (some ⟨w.heap.size + 1 + 1, 0, none⟩), .agg #[.map (some K), .map (some D)], .pointer (some ⟨w.heap.size + 1, 2, none⟩), .agg #[.int .i64 nq, .slice h d.length c], .func (.func 65) #[] #[.pointer (some ⟨w.heap.size + 1 + 1 + 1 + 1, 0, none⟩), .pointer (some ⟨w.heap.size + 1 + 1 + 1, 0, none⟩)], iv x], defers := [] }) ?assign ?body ?done ?stop
  case assign =>
    intro l x W K hK
    gi_wp2
    simpa using hK
  case body =>
    rintro l pre x W ⟨hp, b1, hB⟩ hlen
    have c1 := b1.cell
    have f1 := b1.frozen
    gi_wp2
    exact ⟨(KeepsOthers.setCell _ _ _).from _, rfl, b1.set _, hB.setCell (p := ⟨w.heap.size + 1 + 1, 0, none⟩) (by simp; omega) _⟩
  case done =>
    rintro D' ys W hD hys ⟨hp, b1, hB⟩ hK
    have c1 := b1.cell
    have f1 := b1.frozen
    have HR : Hid (rb = false) := HL.out false (fun ⟨x, hx⟩ => by rw [← hys, hp] at hx; cases hx) (fun _ => rfl)
    obtain rfl := HR.out
    clear HL hp hys
    gi_wp2
    have hK' := (KeepsOthers.setCell W ⟨w.heap.size + 1 + 1, 0, none⟩ (.bool false)).same D' _ hK rfl
    refine ⟨by simp, .inl ⟨_, _, rfl, run_takeDeferred hK', ?_⟩⟩
    have hS := hB.setCell (p := ⟨w.heap.size + 1 + 1, 0, none⟩) (by simp; omega) (.bool false)
    exact ⟨_, res_lacks (by rfl) (boxed_kept (b1.set (.bool false)) hK' rfl _).cell, rfl, hS.trans (belowK_b (w := w) (Nat.le_refl _) _ D' _ _ (by omega) hK' rfl rfl)⟩
  case stop =>
    rintro D' e pre W hD hpre ⟨rfl, b1, hB⟩ hK
    have HR : Hid (rb = true) := HL.out true (fun _ => rfl) (fun k => by obtain ⟨x, hx⟩ := hpre; rw [k] at hx; cases hx)
    obtain rfl := HR.out
    clear HL hpre
    gi_wp2
    refine ⟨by simp, .inl ⟨_, _, rfl, run_takeDeferred hK, ?_⟩⟩
    exact ⟨_, res_lacks (by rfl) (boxed_kept b1 hK rfl _).cell, rfl, hB.trans (belowK_b (w := w) (Nat.le_refl _) W D' _ _ (by omega) hK rfl rfl)⟩
end Go.Proofs.YtgpciipemgljcaaGreat.Od
