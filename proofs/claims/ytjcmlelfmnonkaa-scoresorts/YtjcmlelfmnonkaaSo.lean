/-
  The walk of score.Sort: what it answers is all there was, in order, those that are just as great as they stood, in memory of the call's own. Conditions: at most 60 numbers.
-/
import Derived.Test.YtjcmlelfmnonkaaSs
import Derived.Laws.OwnMore
namespace Go.Proofs.Ytjcmlelfmnonkaa
open Go.Shelf Go.RowKit Go.Lib Go.Sort Go.Proofs.Ytjcmlelfmnonkaa.Fl
set_option linter.unusedVariables false
set_option maxRecDepth 100000

theorem make_run (n : Nat) (hn : n ≤ 60) : ∀ W, (Instr.makeSlice 27 (.int .i64 (n : Int)) (.int .i64 (n : Int))).run Try.prog W = .ok (.slice (some ⟨W.heap.size, 0, none⟩) n n) (W.alloc (.cells (madeCells #[.int .u64 0] n) 23)) := fun W => by
  obtain ⟨i, h1, h2, h3, h4⟩ := info23
  have hr := run_make (P := Try.prog) W 27 23 i _ Try.underlying27 h1 h2 .i64 .i64 n n (by omega) (Int.le_refl _) (by rw [h4]; omega) (by omega)
  simp only [Int.toNat_natCast, h3, Nat.mul_one] at hr
  exact hr
/-- What a sort answers: a slice that reads as the list, of the call's own or not. -/
def SoPost (w : World) (l : List Nat) (e : Ending) (w' : World) : Prop := ∃ (A : Option Addr) (c : Nat) (o : List Nat), e = .returned (.slice A o.length c) ∧ Sd l o ∧ (∀ x ∈ o, x < 18446744073709551616) ∧ o.length = l.length ∧ o.length ≤ c ∧ Sl w' w'.heap.size .u64 A (zs o) ∧ Below w.heap.size w w'

theorem below_sw {V w2 : World} {g B : Nat} {d : Array Nat} (hB : B ≤ g) (hg : g < V.heap.size) (h : SW en V g 0 d w2) : Below B V w2 := by
  obtain ⟨m, os, rfl⟩ := h
  refine ⟨rfl, rfl, rfl, by unfold sortWorld; simp, fun k hk => ?_⟩
  unfold sortWorld
  rw [heap_grow_old _ _ (by simp; omega)]
  have : g ≠ k := by omega
  simp [putRow, mapBlock, Sort.ahead, Array.getElem?_modify, this]
theorem holds_cells {V : World} {g : Nat} {l : List Nat} (hh : V.heap[g]? = some (.cells ((zs l).map (Value.int .u64)).toArray 23 (0, 0))) (hx : ∀ x ∈ l, x < 18446744073709551616) : Holds en V g 0 l.toArray := fun j hj => by
  have hj' : j < l.length := by simpa using hj
  refine ⟨?_, Lib.frozen_of_heap hh _⟩
  rw [Nat.zero_add]
  have e1 : l.toArray[j]! = l[j] := by simp [hj']
  rw [e1]
  unfold en
  rw [md_self (hx _ (List.getElem_mem _))]
  simp [World.cell?, hh, zs, hj']
theorem sl_holds {w : World} {g : Nat} {d : Array Nat} (h : Holds en w g 0 d) (hg : g < w.heap.size) (hx : ∀ x ∈ d.toList, x < 18446744073709551616) : Sl w w.heap.size .u64 (some ⟨g, 0, none⟩) (zs d.toList) :=
  .inr ⟨g, 0, rfl, hg, fun j x hj => by
    have hj1 : j < d.size := by
      have := (List.getElem?_eq_some_iff.1 hj).1
      simpa [zs] using this
    have h1 := (h j hj1).1
    rw [h1]
    unfold en
    have e1 : d[j]! = d.toList[j]'(by simpa using hj1) := by simp [hj1]
    have hjl : j < d.toList.length := by simpa using hj1
    rw [e1, md_self (hx _ (List.getElem_mem _))]
    have e2 : (zs d.toList)[j]? = some ((d.toList[j] : Nat) : Int) := by simp [zs, hj1]
    rw [e2] at hj
    cases hj
    rfl⟩
/-- The last step of the sort: what the row holds. -/
theorem sort_post {w V w2 : World} {l : List Nat} {g n : Nat} {d' : Array Nat} (hn : l.length = n) (hx : ∀ x ∈ l, x < 18446744073709551616) (hb : Below w.heap.size w V) (hgw : w.heap.size ≤ g) (hg : g < V.heap.size) (hH : Holds en V g 0 l.toArray)
    (hs : d'.size = n) (hm : Mg l.toArray 0 n d') (z : SW en V g 0 d' w2) : SoPost w l (.returned (.slice (some ⟨g, 0, none⟩) n n)) w2 := by
  have hl : l.toArray.size = n := by simpa using hn
  have hx' := mg_mem hl hs hm hx
  have hd := mg_sd hl hs hm hx
  have hH2 := z.holds hg hH (by rw [hs, hl])
  have hlen : d'.toList.length = n := by simpa using hs
  refine ⟨some ⟨g, 0, none⟩, n, d'.toList, by rw [hlen], hd, hx', by rw [hlen, hn], by rw [hlen]; exact Nat.le_refl _, sl_holds hH2 (z.lt hg) hx', hb.trans (below_sw hgw hg z)⟩

set_option maxHeartbeats 1000000 in
theorem sort_any (A : Option Addr) (c : Nat) (l : List Nat) (hl : l.length ≤ 60) (hx : ∀ x ∈ l, x < 18446744073709551616) (w : World) (hs : Sl w w.heap.size .u64 A (zs l)) :
    Hid (Calls Try.prog 20 #[.slice A l.length c] w (SoPost w l)) := by
  refine Lib.hid ?_
  have hmk := make_run l.length hl
  have hll : l.length = l.length := rfl
  generalize hn : l.length = n at *
  clear hll
  have HB0 := Lib.hid (((Below.refl w.heap.size w).alloc (Nat.le_refl _) (.cells (madeCells #[.int .u64 0] n) 23)).alloc (by simp) (.cells #[.slice (some ⟨w.heap.size, 0, none⟩) n n] 27))
  have HG0 : Hid (((w.alloc (.cells (madeCells #[.int .u64 0] n) 23)).alloc (.cells #[.slice (some ⟨w.heap.size, 0, none⟩) n n] 27)).heap[w.heap.size]? = some (.cells (madeCells #[.int .u64 0] n) 23 (0, 0))) := Lib.hid (by
    rw [heap_alloc_old _ _ (by simp)]
    exact heap_alloc_new w _)
  have HX0 : Hid (((w.alloc (.cells (madeCells #[.int .u64 0] n) 23)).alloc (.cells #[.slice (some ⟨w.heap.size, 0, none⟩) n n] 27)).cell? ⟨w.heap.size + 1, 0, none⟩ = some (.slice (some ⟨w.heap.size, 0, none⟩) n n)) := Lib.hid (by simp)
  have hz0 : ((w.alloc (.cells (madeCells #[.int .u64 0] n) 23)).alloc (.cells #[.slice (some ⟨w.heap.size, 0, none⟩) n n] 27)).heap.size = w.heap.size + 2 := by simp
  by_cases h0 : n = 0
  · subst h0
    have hl0 : l = [] := List.eq_nil_of_length_eq_zero hn
    subst hl0
    have hcopy : ∀ V, (Builtin.copy_ #[27, 27] 3 #[.slice (some ⟨w.heap.size, 0, none⟩) 0 0, .slice A 0 c]).run Try.prog V = .ok (.int .i64 0) V := fun V => run_copy_none (P := Try.prog) V 27 27 3 23 (some ⟨w.heap.size, 0, none⟩) A 0 0 0 c Try.underlying27 (by kernel_rfl) (by simp)
    have hmk0 : ∀ W, (Instr.makeSlice 27 (.int .i64 0) (.int .i64 0)).run Try.prog W = .ok (.slice (some ⟨W.heap.size, 0, none⟩) 0 0) (W.alloc (.cells (madeCells #[.int .u64 0] 0) 23)) := hmk
    clear hmk
    have hX := HX0.out
    have HHo : Hid (Holds en ((w.alloc (.cells (madeCells #[.int .u64 0] 0) 23)).alloc (.cells #[.slice (some ⟨w.heap.size, 0, none⟩) 0 0] 27)) w.heap.size 0 ([] : List Nat).toArray) := Lib.hid (fun j hj => by simp at hj)
    have HC := ss_any w.heap.size 0 (w.heap.size + 1) 0 ([] : List Nat).toArray rfl (by omega) _ hX (by omega) (by omega) HHo.out (by omega)
    go_enter Try.func20, Try.ntmps20
    go_wp2_with fail
    generalize (w.alloc (.cells (madeCells #[.int .u64 0] 0) 23)).alloc (.cells #[.slice (some ⟨w.heap.size, 0, none⟩) 0 0] 27) = V at *
    refine HC.out.mono ?_
    rintro e w2 ⟨rfl, d', s', m', z'⟩
    have hX2 := (sw_cell (k := 0) z' (by omega) (by omega)).trans hX
    go_wp2
    go_ret
    exact sort_post rfl hx HB0.out (Nat.le_refl _) (by omega) HHo.out s' m' z'
  · rcases hs with hs | ⟨b, off, rfl, hb, hcell⟩
    · exfalso
      have h : (zs l).length = 0 := by rw [hs]; rfl
      rw [zs_len, hn] at h
      exact h0 h
    have hcs : ((zs l).map (Value.int .u64)).length = n := by rw [List.length_map, zs_len, hn]
    have hcopy := run_copy_row (P := Try.prog) ((w.alloc (.cells (madeCells #[.int .u64 0] n) 23)).alloc (.cells #[.slice (some ⟨w.heap.size, 0, none⟩) n n] 27)) 27 27 3 23 w.heap.size 0 n n ⟨b, off, none⟩ n c (madeCells #[.int .u64 0] n) 23 ((zs l).map (Value.int .u64)) Try.underlying27 (by kernel_rfl) HG0.out (by rw [hcs]; simp) (by
      intro j v hv
      rw [List.getElem?_map] at hv
      obtain ⟨x, hx1, rfl⟩ := Option.map_eq_some_iff.1 hv
      rw [Addr.add_lit, HB0.out.cell (p := ⟨b, off + j, none⟩) hb]
      exact hcell j x hx1) (by rw [hcs]; simp [madeCells]) (ints_one _ _)
    rw [show ((madeCells #[.int .u64 0] n).toList.take 0 ++ (zs l).map (Value.int .u64) ++ (madeCells #[.int .u64 0] n).toList.drop (0 + ((zs l).map (Value.int .u64)).length)).toArray = ((zs l).map (Value.int .u64)).toArray by
      rw [hcs, List.take_zero, List.nil_append, List.drop_of_length_le (by simp [madeCells]), List.append_nil], hcs] at hcopy
    generalize hV0 : (w.alloc (.cells (madeCells #[.int .u64 0] n) 23)).alloc (.cells #[.slice (some ⟨w.heap.size, 0, none⟩) n n] 27) = V0 at hcopy HB0 HG0 HX0 hz0
    have HH : Hid ((V0.setRow w.heap.size ((zs l).map (Value.int .u64)).toArray).heap[w.heap.size]? = some (.cells ((zs l).map (Value.int .u64)).toArray 23 (0, 0))) := Lib.hid (setRow_heap V0 _ _ _ 23 _ HG0.out)
    have HB := Lib.hid (below_setRow HB0.out (Nat.le_refl _) ((zs l).map (Value.int .u64)).toArray)
    have hX : (V0.setRow w.heap.size ((zs l).map (Value.int .u64)).toArray).cell? ⟨w.heap.size + 1, 0, none⟩ = some (.slice (some ⟨w.heap.size, 0, none⟩) n n) := by
      have e := setRow_other V0 w.heap.size (w.heap.size + 1) ((zs l).map (Value.int .u64)).toArray (by omega)
      rw [← HX0.out]
      simp only [World.cell?, e]
    have hsz : (V0.setRow w.heap.size ((zs l).map (Value.int .u64)).toArray).heap.size = w.heap.size + 2 := by
      rw [← hz0]; simp [World.setRow]
    generalize V0.setRow w.heap.size ((zs l).map (Value.int .u64)).toArray = V at hcopy HH HB hX hsz
    have HHo := Lib.hid (holds_cells HH.out hx)
    have HC := ss_any w.heap.size n (w.heap.size + 1) n l.toArray (by simpa using hn) hl V hX (by omega) (by omega) HHo.out (by omega)
    subst hV0
    have hX0 := HX0.out
    clear HG0 HX0 hcell HH
    go_enter Try.func20, Try.ntmps20
    go_wp2_with fail
    refine HC.out.mono ?_
    rintro e w2 ⟨rfl, d', s', m', z'⟩
    have hX2 := (sw_cell (k := 0) z' (by omega) (by omega)).trans hX
    go_wp2
    go_ret
    exact sort_post hn hx HB.out (Nat.le_refl _) (by omega) HHo.out s' m' z'
end Go.Proofs.Ytjcmlelfmnonkaa
