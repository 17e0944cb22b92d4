/-
  Who waits for whom, by places, as edges: words, and that these are the edges. No program's function is walked here. Conditions: at most 100 nodes.
-/
import Derived.Test.YtgpciipemgljcaaGreatGag
import Derived.Carry
import Derived.Test.YtgpciipemgljcaaGreatGad
namespace Go.Proofs.YtgpciipemgljcaaGreat.Od
open Go.RowKit
open Go.Proofs.YtgpciipemgljcaaGreat.Gp (Es eg2 Ed am am_in)
set_option linter.unusedVariables false

/-- Whether the node at one place waits for that at another one. -/
def wb (c : List No) (a b : Nat) : Bool := match c[a]?, c[b]? with
  | some x, some y => wa x y.i
  | _, _ => false
theorem wb_iff {c : List No} {a b : Nat} : wb c a b = true ↔ Wg c a b := by
  unfold wb Wg
  constructor
  · intro h
    split at h
    · rename_i x y hx hy; exact ⟨x, y, hx, hy, h⟩
    · cases h
  · rintro ⟨x, y, hx, hy, h⟩
    simp only [hx, hy, h]
theorem wb_at {c : List No} {a b : Nat} {x y : No} (hx : c[a]? = some x) (hy : c[b]? = some y) : wb c a b = wa x y.i := by
  unfold wb
  simp only [hx, hy]
def er (c : List No) (a k : Nat) : List (Int × Int) := ((List.range k).filter (wb c a)).map fun (b : Nat) => ((a : Int), (b : Int))
def ek (c : List No) (j : Nat) : List (Int × Int) := (List.range j).flatMap fun a => er c a c.length
def ee (c : List No) : List (Int × Int) := ek c c.length
theorem er_zero (c : List No) (a : Nat) : er c a 0 = [] := rfl
theorem er_yes {c : List No} {a k : Nat} (h : wb c a k = true) : er c a (k + 1) = er c a k ++ [((a : Int), (k : Int))] := by simp [er, List.range_succ, h]
theorem er_no {c : List No} {a k : Nat} (h : wb c a k = false) : er c a (k + 1) = er c a k := by simp [er, List.range_succ, h]
theorem ek_zero (c : List No) : ek c 0 = [] := rfl
theorem ek_succ (c : List No) (j : Nat) : ek c (j + 1) = ek c j ++ er c j c.length := by simp [ek, List.range_succ]
theorem er_len (c : List No) (a k : Nat) : (er c a k).length ≤ k := by
  unfold er
  rw [List.length_map]
  refine Nat.le_trans (List.length_filter_le _ _) ?_
  simp
theorem ek_len (c : List No) (j : Nat) : (ek c j).length ≤ j * c.length := by
  induction j with
  | zero => simp [ek]
  | succ j ih =>
    rw [ek_succ, List.length_append]
    have := er_len c j c.length
    rw [Nat.succ_mul]
    omega
theorem ee_len {c : List No} (h : c.length ≤ 30) : (ee c).length ≤ 1000 := by
  have h1 := ek_len c c.length
  have h2 : c.length * c.length ≤ 30 * 30 := Nat.mul_le_mul h h
  unfold ee
  omega
theorem mem_ee {c : List No} {x y : Int} : (x, y) ∈ ee c ↔ ∃ a b : Nat, x = (a : Int) ∧ y = (b : Int) ∧ Wg c a b := by
  simp only [ee, ek, er, List.mem_flatMap, List.mem_range, List.mem_map, List.mem_filter, Prod.mk.injEq]
  constructor
  · rintro ⟨a, ha, b, ⟨hb, hw⟩, e1, e2⟩
    exact ⟨a, b, e1.symm, e2.symm, wb_iff.1 hw⟩
  · rintro ⟨a, b, e1, e2, hw⟩
    have := wg_in c a b hw
    exact ⟨a, this.1, b, ⟨this.2, wb_iff.2 hw⟩, e1.symm, e2.symm⟩
theorem ed_ee {c : List No} (h : c.length ≤ 100) : Ed (am (c.length : Int)) (ee c) = Wg c := by
  have hm : am (c.length : Int) = c.length := by
    have := am_in (n := (c.length : Int)) (by omega) (by omega)
    omega
  rw [hm]
  funext a b
  apply propext
  unfold Gp.Ed
  rw [mem_ee]
  constructor
  · rintro ⟨_, _, a', b', e1, e2, hw⟩
    have h1 : a = a' := by omega
    have h2 : b = b' := by omega
    subst h1 h2
    exact hw
  · intro hw
    have := wg_in c a b hw
    exact ⟨this.1, this.2, a, b, rfl, rfl, hw⟩
theorem am_len {c : List No} (h : c.length ≤ 100) : am (c.length : Int) = c.length := by
  have := am_in (n := (c.length : Int)) (by omega) (by omega)
  omega

/-- A row of the call's own is not a box of another type. -/
theorem own_ne {w : World} {base n k g c B : Nat} {e t : TypeId} {cs cur : Array Value} (h : w.ownsRow base e k (.slice (some ⟨g, 0, none⟩) n c) n cs.toList) (hB : w.heap[B]? = some (.cells cur t (0, 0))) (hne : t ≠ e) : g ≠ B := by
  rcases h.2 with ⟨h0, _⟩ | ⟨g', cap, cur', hv, _, hh, _⟩
  · cases h0
  · simp only [Value.slice.injEq, Option.some.injEq, Addr.mk.injEq] at hv
    obtain ⟨⟨rfl, _⟩, _, _⟩ := hv
    rintro rfl
    rw [hh] at hB
    simp only [Option.some.injEq, Obj.cells.injEq] at hB
    exact hne hB.2.1.symm
theorem own_apart {w : World} {base n k B : Nat} {v : Value} {l : List Value} {e t : TypeId} {cur : Array Value} (h : w.ownsRow base e k v n l) (hB : w.heap[B]? = some (.cells cur t (0, 0))) (hne : t ≠ e) : ∀ r, v.ownBlock = some r → r ≠ B := by
  rcases h.2 with ⟨rfl, _⟩ | ⟨g', cap, cur', rfl, _, hh, _⟩
  · intro r hr; cases hr
  · intro r hr
    cases hr
    rintro rfl
    rw [hh] at hB
    simp only [Option.some.injEq, Obj.cells.injEq] at hB
    exact hne hB.2.1.symm
theorem Nb.grown {w w' : World} {base n k B : Nat} {v : Value} {l : List Value} {e : TypeId} {x : No} (h : Nb w B x) (ho : w.ownsRow base e k v n l) (hg : w.grownBy w' v.ownBlock) (hne : (30 : TypeId) ≠ e) : Nb w' B x :=
  (hg.block B h.lt fun e' => own_apart ho h hne B e'.symm rfl).trans h
theorem ownk {w w' : World} {base k : Nat} {e : TypeId} {v : Value} {n : Nat} {xs : List Value} (h : w.ownsRow base e k v n xs) (hb : Below w.heap.size w w') : w'.ownsRow base e k v n xs := by
  refine ⟨h.1, ?_⟩
  have hg := h.lt
  rcases h.2 with h0 | ⟨g, cap, cur, rfl, hb', hh, h1, h2, h3, h4⟩
  · exact .inl h0
  · exact .inr ⟨g, cap, cur, rfl, hb', (hb.block g (hg g rfl).2).trans hh, h1, h2, h3, h4⟩
/-- The call gave these edges. -/
def EsPost (w : World) (es : List (Int × Int)) (e : Ending) (w' : World) : Prop := ∃ A c, e = .returned (.slice A es.length c) ∧ Es w' w'.heap.size A es ∧ Below w.heap.size w w'
end Go.Proofs.YtgpciipemgljcaaGreat.Od

/-
  What was handed in, put into maps: what a store makes of them; the nodes that count, node by node. No program's function is walked here. No conditions.
-/
namespace Go.Proofs.YtgpciipemgljcaaGreat.Od
open Go.RowKit Go.MapKept
open Go.ChangeMaps (setBlock)
set_option linter.unusedVariables false

theorem get_setBlock (w : World) (b k : Nat) (o : Obj) : (setBlock w b o).heap[k]? = if b = k then (if b < w.heap.size then some o else none) else w.heap[k]? := by
  simp [setBlock, Array.getElem?_setIfInBounds]
theorem size_setBlock (w : World) (b : Nat) (o : Obj) : (setBlock w b o).heap.size = w.heap.size := by simp [setBlock]
theorem set_same {w : World} {b : Nat} (o : Obj) (h : b < w.heap.size) : (setBlock w b o).heap[b]? = some o := by rw [get_setBlock, if_pos rfl, if_pos h]
theorem set_other {w : World} {b k : Nat} (o : Obj) (h : k ≠ b) : (setBlock w b o).heap[k]? = w.heap[k]? := by rw [get_setBlock, if_neg (fun e => h e.symm)]
theorem below_setBlock {D : Nat} {a w : World} (h : Below D a w) {b : Nat} (hb : D ≤ b) (o : Obj) : Below D a (setBlock w b o) :=
  ⟨h.os, h.tape, h.output, by rw [size_setBlock]; exact h.size, fun k hk => (set_other o (by omega)).trans (h.block k hk)⟩

theorem Td.putd {W : World} {K D : Nat} {cf : Is → Option No} {Dn : List Is} (h : Td W K D cf Dn) (hne : K ≠ D) {i : Is} (hi : fi i) :
    ∃ o', (∀ V : World, V.heap[D]? = W.heap[D]? → (Instr.mapUpdate 49 (.map (some D)) (iv i) (.agg #[])).run Tryz.prog V = .ok () (setBlock V D o')) ∧
      ∀ V : World, V.heap[K]? = W.heap[K]? → V.heap[D]? = W.heap[D]? → Td (setBlock V D o') K D cf (Dn ++ [i]) := by
  obtain ⟨c, hd⟩ := h.d
  have hdl := h.dl
  obtain ⟨o', h1, h2⟩ := hd.put goodI (a := i) hi (t := 49) (e := 73) Tryz.underlying49 (.agg #[]) D
  refine ⟨o', h1, fun V hK hD => ⟨?_, ?_⟩⟩
  · rw [set_other (w := V) o' hne, hK]; exact h.k
  · have hl : D < V.heap.size := by
      rcases Nat.lt_or_ge D V.heap.size with hl | hl
      · exact hl
      · rw [Array.getElem?_eq_none hl, Array.getElem?_eq_getElem hdl] at hD; cases hD
    rw [set_same (w := V) o' hl]
    have e : (upd (fun x => if x ∈ Dn then some (Value.agg #[]) else none) i (some (Value.agg #[]))) = fun x => if x ∈ Dn ++ [i] then some (Value.agg #[]) else none := by
      funext x
      unfold upd
      by_cases hx : x = i
      · subst hx; simp
      · simp [hx]
    rw [← e]
    exact ⟨_, h2⟩
theorem Td.putk {W : World} {K D : Nat} {cf : Is → Option No} {Dn : List Is} (h : Td W K D cf Dn) (hne : K ≠ D) {n : No} (hi : fi n.i) :
    ∃ o', (∀ V : World, V.heap[K]? = W.heap[K]? → (Instr.mapUpdate 48 (.map (some K)) (iv n.i) (nv n)).run Tryz.prog V = .ok () (setBlock V K o')) ∧
      ∀ V : World, V.heap[K]? = W.heap[K]? → V.heap[D]? = W.heap[D]? → Td (setBlock V K o') K D (fun x => if x = n.i then some n else cf x) Dn := by
  obtain ⟨c, hd⟩ := h.k
  have hkl := h.kl
  obtain ⟨o', h1, h2⟩ := hd.put goodI (a := n.i) hi (t := 48) (e := 30) Tryz.underlying48 (nv n) K
  refine ⟨o', h1, fun V hK hD => ⟨?_, ?_⟩⟩
  · have hl : K < V.heap.size := by
      rcases Nat.lt_or_ge K V.heap.size with hl | hl
      · exact hl
      · rw [Array.getElem?_eq_none hl, Array.getElem?_eq_getElem hkl] at hK; cases hK
    rw [set_same (w := V) o' hl]
    have e : (upd (fun x => (cf x).map nv) n.i (some (nv n))) = fun x => ((if x = n.i then some n else cf x) : Option No).map nv := by
      funext x
      unfold upd
      by_cases hx : x = n.i
      · simp [hx]
      · simp [hx]
    rw [← e]
    exact ⟨_, h2⟩
  · rw [set_other (w := V) o' (fun e => hne e.symm), hD]; exact h.d
theorem td_new {W : World} {K D : Nat} (hk : W.heap[K]? = some (.map #[] 0)) (hd : W.heap[D]? = some (.map #[] 0)) : Td W K D (fun _ => none) [] := by
  refine ⟨⟨0, ?_⟩, ⟨0, ?_⟩⟩
  · rw [hk]; exact mo_new
  · rw [hd]
    have e : (fun (i : Is) => if i ∈ ([] : List Is) then some (Value.agg #[]) else none) = fun _ => none := by funext i; simp
    rw [e]
    exact mo_new

/-- The nodes that count, node by node. -/
theorem fs_step {l : List No} {k : Nat} {x : No} (hx : l[k]? = some x) (hk : k < 100) (i : Is) : fs (l.take (k + 1)) i = (fs (l.take k) i).or (if nr x && decide (x.i = i) then some x else none) := by
  obtain ⟨hl, rfl⟩ := List.getElem?_eq_some_iff.1 hx
  unfold fs
  rw [List.take_take, List.take_take, Nat.min_eq_right (by omega), Nat.min_eq_right (by omega), ← List.take_append_getElem hl, List.find?_append]
  congr 1
  rw [List.find?_cons]
  rcases (nr l[k] && decide (l[k].i = i)) with _ | _ <;> rfl
theorem ct_step {l : List No} {D : List Is} {k : Nat} {x : No} (hx : l[k]? = some x) (hk : k < 100) : ct (l.take (k + 1)) D = if (nr x && !kw (ct (l.take k) D) D x.i) = true then (fun i => if i = x.i then some x else ct (l.take k) D i) else ct (l.take k) D := by
  have key : ∀ i, ct (l.take (k + 1)) D i = if (nr x && !kw (ct (l.take k) D) D x.i) = true ∧ i = x.i then some x else ct (l.take k) D i := fun i => by
    unfold kw ct
    rw [fs_step hx hk]
    by_cases hr : nr x = true
    · by_cases hi : i = x.i
      · subst hi
        by_cases hD : x.i ∈ D
        · simp [hr, hD]
        · rcases hf : fs (l.take k) x.i with _ | y
          · simp [hr, hD]
          · simp [hr, hD]
      · have hi' : ¬ x.i = i := fun e => hi e.symm
        simp [hi, hi']
    · have hr' : nr x = false := by simpa using hr
      simp [hr']
  funext i
  rw [key i]
  split
  · rename_i h
    rw [if_pos h.1, if_pos h.2]
  · rename_i h
    split
    · rename_i h2
      exact (if_neg (fun e => h ⟨h2, e⟩)).symm
    · rfl
theorem ct_nil (D : List Is) : ct [] D = fun _ => none := by
  funext i
  unfold ct fs
  simp
theorem ct_in {l : List No} {D : List Is} {i : Is} {n : No} (h : ct l D i = some n) : n.i = i := (fs_some (ct_some.1 h).2).2.2

theorem elem_size22 (W : World) : (sizeOf (Tryz.prog.elem 22)).run Tryz.prog W = .ok 4 W := by
  obtain ⟨i0, hi, hz0, hz1, hz2⟩ := info_parts info30
  have e : Tryz.prog.elem 22 = 30 := by kernel_rfl
  rw [e]
  simp [sizeOf, typeInfo, hi, hz1]
/-- 's[:n]' of n nodes. -/
theorem head_run {w : World} {B : Nat} {A : Option Addr} {l : List No} (h : Nl w B A l) (c : Nat) (hc : l.length ≤ c) :
    ∃ A', (∀ W, (Instr.sliceAt 22 (.slice A l.length c) none (some (.int .i64 (l.length : Int))) none).run Tryz.prog W = .ok (.slice A' l.length c) W) ∧
      (∀ W, (Instr.slice 22 (.slice A l.length c) none (some (.int .i64 (l.length : Int))) none).run Tryz.prog W = .ok (.slice A' l.length c) W) ∧ Nl w B A' l := by
  have eu : Tryz.prog.underlying 22 = some (.slice (Tryz.prog.elem 22)) := by kernel_rfl
  have h2 : ∀ W, (Instr.slice 22 (.slice A l.length c) none (some (.int .i64 (l.length : Int))) none).run Tryz.prog W = .ok (.slice (if c = 0 then A else A.map (·.add (0 * 4))) l.length c) W := fun W => by
    rw [run_slice_h W 22 A l.length c eu .i64 l.length (by omega) (by omega), elem_size22]
    simp [sliced]
  refine ⟨if c = 0 then A else A.map (·.add (0 * 4)), fun W => by rw [run_sliceAt_slice W 22 _ _ _ _ eu]; exact h2 W, h2, ?_⟩
  rcases h with rfl | ⟨b, off, rfl, hb, hcc⟩
  · exact .nil
  · refine .inr ⟨b, off, ?_, hb, hcc⟩
    split <;> simp [Addr.add]
end Go.Proofs.YtgpciipemgljcaaGreat.Od

/-
  The walk of order's read: what was handed in, as two maps. Conditions: at most 100 nodes, 1000 that were done, 1000 deps.
-/
namespace Go.Proofs.YtgpciipemgljcaaGreat.Od
open Go.RowKit Go.MapKept
open Go.ChangeMaps (setBlock)
set_option linter.unusedVariables false

/-- Two maps in a box. -/
def Tx (W : World) (B : Nat) (k d : Option Nat) : Prop := W.heap[B]? = some (.cells #[.map k, .map d] 51 (0, 0))
section
variable {w w' : World} {B : Nat} {k d : Option Nat}
theorem Tx.cells (h : Tx w B k d) : w.cell? ⟨B, 0, none⟩ = some (.map k) ∧ w.cell? ⟨B, 1, none⟩ = some (.map d) :=
  ⟨by rw [cell_of_row w B 0 _ 51 _ h]; rfl, by rw [cell_of_row w B 1 _ 51 _ h]; rfl⟩
theorem Tx.lt (h : Tx w B k d) : B < w.heap.size := lt_of_block h
theorem Tx.old (h : Tx w B k d) (o : Obj) : Tx (w.alloc o) B k d := (heap_alloc_old w o h.lt).trans h
theorem Tx.up (h : Tx w B k d) (hb : Below w.heap.size w w') : Tx w' B k d := (hb.block B h.lt).trans h
theorem Tx.put (h : Tx w B k d) {b : Nat} (hne : B ≠ b) (o : Obj) : Tx (setBlock w b o) B k d := (set_other o hne).trans h
theorem Tx.free (h : Tx w B k d) (i : Nat) : w.frozen? ⟨B, i, none⟩ = false := Lib.frozen_of_heap h i
end
theorem Td.ne {w : World} {K D B : Nat} {cf : Is → Option No} {Dn : List Is} {k d : Option Nat} (h : Td w K D cf Dn) (hx : Tx w B k d) : B ≠ K ∧ B ≠ D := by
  constructor
  · rintro rfl
    obtain ⟨c, es, cl, hh, _⟩ := h.k
    rw [show w.heap[B]? = _ from hx] at hh; cases hh
  · rintro rfl
    obtain ⟨c, es, cl, hh, _⟩ := h.d
    rw [show w.heap[B]? = _ from hx] at hh; cases hh
theorem Td.apart {w : World} {K D B : Nat} {cf : Is → Option No} {Dn : List Is} {cs : Array Value} {t : TypeId} {fr : Nat × Nat} (h : Td w K D cf Dn) (hx : w.heap[B]? = some (.cells cs t fr)) : B ≠ K ∧ B ≠ D := by
  constructor
  · rintro rfl
    obtain ⟨c, es, cl, hh, _⟩ := h.k
    rw [hx] at hh; cases hh
  · rintro rfl
    obtain ⟨c, es, cl, hh, _⟩ := h.d
    rw [hx] at hh; cases hh

/-- The call gave these maps. -/
def TdPost (w : World) (cf : Is → Option No) (Dn : List Is) (e : Ending) (w' : World) : Prop := ∃ K D, e = .returned (tv K D) ∧ Td w' K D cf Dn ∧ Below w.heap.size w w'
theorem run_res23 {V : World} {tm : Array Value} {B : Nat} {K D : Option Nat} (h4 : tm[4]?.getD undef = .pointer (some ⟨B, 0, none⟩)) (hb : Tx V B K D) :
    (results Tryz.f23 tm).run Tryz.prog V = .ok (.agg #[.map K, .map D]) V := by
  obtain ⟨c0, c1⟩ := hb.cells
  simp [results, Tryz.results23, h4, go_sem, c0, c1]

theorem kw_eq (cf : Is → Option No) (Dn : List Is) (i : Is) : kw cf Dn i = kw cf Dn i := rfl
set_option maxHeartbeats 2000000 in
theorem read_any (A : Option Addr) (c : Nat) (l : List No) (hl : l.length ≤ 100) (hc : l.length ≤ c) (Ad : Option Addr) (cd : Nat) (D : List Is) (hD : D.length ≤ 1000) (hf : Wf l) (hW : Wd D) (h7 : ∀ n ∈ l, n.d.length ≤ 1000) (w : World) (hs : Nl w w.heap.size A l) (hd : Dl w w.heap.size l) (hi : Il w w.heap.size Ad D) :
    Calls Tryz.prog 23 #[.slice A l.length c, .slice Ad D.length cd] w (TdPost w (ct l D) D) := by
  obtain ⟨A', hr1, hr2, hs'⟩ := head_run hs c hc
  have HS := Lib.hid hs'
  have HD := Lib.hid hd
  have HI := Lib.hid hi
  have HF := Lib.hid hf
  have HW := Lib.hid hW
  have H7 := Lib.hid h7
  have hmm := @run_makeMap Tryz.prog
  have hmin : min (l.length : Int) 100 = (l.length : Int) := by omega
  have T0 : Hid (Td ((((w.alloc (.cells #[.map none, .map none] 51)).alloc (.map #[] 0)).alloc (.map #[] 0)).alloc (.cells #[.map (some (w.heap.size + 1)), .map (some (w.heap.size + 1 + 1))] 51)) (w.heap.size + 1) (w.heap.size + 1 + 1) (fun _ => none) []) := by
    refine td_new ?_ ?_
    · rw [heap_alloc_old _ _ (by simp), heap_alloc_old _ _ (by simp)]
      have := heap_alloc_new (w.alloc (.cells #[.map none, .map none] 51)) (.map #[] 0)
      simpa using this
    · rw [heap_alloc_old _ _ (by simp)]
      have := heap_alloc_new ((w.alloc (.cells #[.map none, .map none] 51)).alloc (.map #[] 0)) (.map #[] 0)
      simpa using this
  have X4 : Hid (Tx ((((w.alloc (.cells #[.map none, .map none] 51)).alloc (.map #[] 0)).alloc (.map #[] 0)).alloc (.cells #[.map (some (w.heap.size + 1)), .map (some (w.heap.size + 1 + 1))] 51)) w.heap.size none none) := Tx.old (Tx.old (Tx.old (heap_alloc_new w _) _) _) _
  have X5 : Hid (Tx ((((w.alloc (.cells #[.map none, .map none] 51)).alloc (.map #[] 0)).alloc (.map #[] 0)).alloc (.cells #[.map (some (w.heap.size + 1)), .map (some (w.heap.size + 1 + 1))] 51)) (w.heap.size + 1 + 1 + 1) (some (w.heap.size + 1)) (some (w.heap.size + 1 + 1))) := by
    have := heap_alloc_new (((w.alloc (.cells #[.map none, .map none] 51)).alloc (.map #[] 0)).alloc (.map #[] 0)) (.cells #[.map (some (w.heap.size + 1)), .map (some (w.heap.size + 1 + 1))] 51)
    show _ = _
    simpa using this
  have B0 : Hid (Below w.heap.size w ((((w.alloc (.cells #[.map none, .map none] 51)).alloc (.map #[] 0)).alloc (.map #[] 0)).alloc (.cells #[.map (some (w.heap.size + 1)), .map (some (w.heap.size + 1 + 1))] 51))) := ((((Below.refl _ _).alloc (Nat.le_refl _) _).alloc (by simp) _).alloc (by simp; omega) _).alloc (by simp; omega) _
  clear hs hd hi hf hW h7 hs'
  go_enter Tryz.func23, Tryz.ntmps23
  go_wp2
  generalize (((w.alloc (.cells #[.map none, .map none] 51)).alloc (.map #[] 0)).alloc (.map #[] 0)).alloc (.cells #[.map (some (w.heap.size + 1)), .map (some (w.heap.size + 1 + 1))] 51) = W0 at *
  have HKD : w.heap.size + 1 ≠ w.heap.size + 1 + 1 := by omega
  have HK : w.heap.size ≤ w.heap.size + 1 := by omega
  have HDm : w.heap.size ≤ w.heap.size + 1 + 1 := by omega
  generalize w.heap.size + 1 + 1 + 1 = B5 at *
  generalize w.heap.size + 1 + 1 = Dm at *
  generalize w.heap.size + 1 = K at *
  go_loopg [15] D.length (fun q t W => ∃ k : Nat, k + q = D.length ∧ t = .int .i64 (k : Int) ∧ Hid (Td W K Dm (fun _ => none) (D.take k)) ∧ Hid (Tx W w.heap.size none none) ∧ Hid (Tx W B5 (some K) (some Dm)) ∧ Hid (Below w.heap.size w W))
  case atStart => exact ⟨0, by omega, rfl, T0.out, X4.out, X5.out, B0.out⟩
  case round =>
    obtain ⟨k, hk, rfl, hT, h4, h5, hB⟩ := hrel
    clear T0 X4 X5 B0
    by_cases hlt : k < D.length
    · have hki : (k : Int) < (D.length : Int) := by omega
      have hk0 : (0 : Int) ≤ (k : Int) := by omega
      have HX := Lib.hid (List.getElem?_eq_getElem hlt)
      have HFX := Lib.hid (HW.out _ (List.getElem_mem hlt))
      have HTk : Hid (D.take (k + 1) = D.take k ++ [D[k]]) := (List.take_append_getElem hlt).symm
      obtain ⟨b, off, rfl, hb, p0, p1⟩ := (HI.out.below hB.out (Nat.le_refl _)).at_ HX.out
      have NX := Lib.hid (jb_new wr D[k])
      generalize D[k] = x at *
      have T1 := Lib.hid (hT.out.up ((Below.refl _ _).alloc (Nat.le_refl _) (io x)))
      have h41 := Lib.hid (h4.out.old (io x))
      have h51 := Lib.hid (h5.out.old (io x))
      have B1 := Lib.hid (hB.out.alloc hB.out.size (io x))
      obtain ⟨o', HU, HT2⟩ := T1.out.putd HKD HFX.out
      obtain ⟨x1, x2⟩ := x
      simp only [io, iv] at *
      obtain ⟨q0, q1⟩ := NX.out.jr
      obtain ⟨r0, r1⟩ := h51.out.cells
      have HU1 := HU _ rfl
      have T2 := Lib.hid (HT2 _ rfl rfl)
      have h42 := Lib.hid (h41.out.put (T1.out.ne h41.out).2 o')
      have h52 := Lib.hid (h51.out.put (T1.out.ne h51.out).2 o')
      have B2 := Lib.hid (below_setBlock B1.out HDm o')
      clear hT h4 h5 hB HU HT2
      go_wp2
      go_roundg (D.length - (k + 1))
      case measure => omega
      case rel => exact ⟨k + 1, by omega, by go_num, by rw [HTk.out]; exact T2.out, h42.out, h52.out, B2.out⟩
    · obtain rfl : k = D.length := by omega
      rw [List.take_length] at hT
      go_wp2
      go_loopg [30] l.length (fun q t W => ∃ k : Nat, k + q = l.length ∧ t = .int .i64 (k : Int) ∧ Hid (Td W K Dm (ct (l.take k) D) D) ∧ Hid (Tx W w.heap.size none none) ∧ Hid (Tx W B5 (some K) (some Dm)) ∧ Hid (Below w.heap.size w W))
      case atStart => exact ⟨0, by omega, rfl, by rw [List.take_zero, ct_nil]; exact hT.out, h4.out, h5.out, hB.out⟩
      case round =>
        clear hT h4 h5 hB
        obtain ⟨k, hk, rfl, hT, h4, h5, hB⟩ := hrel
        by_cases hlt : k < l.length
        · have hki : (k : Int) < (l.length : Int) := by omega
          have hk0 : (0 : Int) ≤ (k : Int) := by omega
          have HX := Lib.hid (List.getElem?_eq_getElem hlt)
          have hmem := List.getElem_mem hlt
          obtain ⟨b, off, rfl, hb, p0, p1, p2, p3⟩ := (HS.out.below hB.out (Nat.le_refl _)).at_ HX.out
          have NX := Lib.hid (nb_new wr l[k])
          have HFX := Lib.hid (HF.out _ hmem).1
          have H7X := H7.out _ hmem
          have HCT := Lib.hid (ct_step (D := D) HX.out (by omega : k < 100))
          have HDX := HD.out _ hmem
          generalize l[k] = x at *
          have B1 := Lib.hid (hB.out.alloc hB.out.size (no x))
          have T1 := Lib.hid (hT.out.up ((Below.refl _ _).alloc (Nat.le_refl _) (no x)))
          have h41 := Lib.hid (h4.out.old (no x))
          have h51 := Lib.hid (h5.out.old (no x))
          have HN := Lib.hid (near_any x H7X (wr.alloc (no x)) (HDX.to B1.out B1.out.size))
          have HKn : ∀ V, Td V K Dm (ct (l.take k) D) D → Hid (Calls Tryz.prog 44 #[tv K Dm, iv x.i] V (BoolPost V (kw (ct (l.take k) D) D x.i))) := fun V h => knows_any K Dm _ _ x.i HFX.out V h
          have HP : ∀ V, Td V K Dm (ct (l.take k) D) D → Hid (∃ o', (∀ V' : World, V'.heap[K]? = V.heap[K]? → (Instr.mapUpdate 48 (.map (some K)) (iv x.i) (nv x)).run Tryz.prog V' = .ok () (setBlock V' K o')) ∧
      ∀ V' : World, V'.heap[K]? = V.heap[K]? → V'.heap[Dm]? = V.heap[Dm]? → Td (setBlock V' K o') K Dm (fun y => if y = x.i then some x else ct (l.take k) D y) D) := fun V h => h.putk HKD HFX.out
          generalize kw (ct (l.take k) D) D x.i = rk at *
          generalize nr x = rn at *
          obtain ⟨xb, xs, xq, xd, xh, xc⟩ := x
          simp only [no, nv, No.i, iv] at *
          obtain ⟨x0, x1, x2, x3⟩ := NX.out.nr
          clear hT h4 h5 hB HDX
          go_wp2_with fail
          generalize hB9 : wr.heap.size = B9 at *
          generalize (wr.alloc (.cells #[.int .i64 xb, .int .i64 xs, .int .i64 xq, .slice xh xd.length xc] 30)) = W1 at *
          refine HN.out.mono ?_
          rintro e w2 ⟨rfl, B2⟩
          have T2 := Lib.hid (T1.out.up B2)
          have h42 := Lib.hid (h41.out.up B2)
          have h52 := Lib.hid (h51.out.up B2)
          have N2 := Lib.hid (NX.out.on B2 NX.out.lt)
          have B3 := Lib.hid (B1.out.trans (B2.mono B1.out.size))
          clear T1 h41 h51 B1 B2 NX HN x0 x1 x2 x3
          obtain ⟨x0, x1, x2, x3⟩ := N2.out.nr
          obtain ⟨r0, r1⟩ := h52.out.cells
          rcases rn with _ | _
          · have HC2 : Hid (ct (l.take (k + 1)) D = ct (l.take k) D) := HCT.out.trans (by simp)
            clear HCT
            go_wp2
            go_roundg (l.length - (k + 1))
            case measure => omega
            case rel => exact ⟨k + 1, by omega, by go_num, by rw [HC2.out]; exact T2.out, h42.out, h52.out, B3.out⟩
          · have HK2 := HKn w2 T2.out
            go_wp2_with fail
            refine HK2.out.mono ?_
            rintro e w3 ⟨rfl, B4⟩
            have T3 := Lib.hid (T2.out.up B4)
            have h43 := Lib.hid (h42.out.up B4)
            have h53 := Lib.hid (h52.out.up B4)
            have N3 := Lib.hid (N2.out.on B4 N2.out.lt)
            have B5' := Lib.hid (B3.out.trans (B4.mono B3.out.size))
            clear T2 h42 h52 B3 B4 N2 HK2 x0 x1 x2 x3 r0 r1
            obtain ⟨x0, x1, x2, x3⟩ := N3.out.nr
            obtain ⟨r0, r1⟩ := h53.out.cells
            rcases rk with _ | _
            · have HC2 : Hid (ct (l.take (k + 1)) D = fun i => if i = (xb, xs) then some ⟨xb, xs, xq, xd, xh, xc⟩ else ct (l.take k) D i) := HCT.out.trans (by simp; rfl)
              obtain ⟨o', HU, HT2⟩ := (HP w3 T3.out).out
              have HU1 := HU w3 rfl
              have T4 := Lib.hid (HT2 w3 rfl rfl)
              have h44 := Lib.hid (h43.out.put (T3.out.ne h43.out).1 o')
              have h54 := Lib.hid (h53.out.put (T3.out.ne h53.out).1 o')
              have B6 := Lib.hid (below_setBlock B5'.out HK o')
              clear HU HT2 HP T3 h43 h53 B5' HCT
              go_wp2
              go_roundg (l.length - (k + 1))
              case measure => omega
              case rel => exact ⟨k + 1, by omega, by go_num, by rw [HC2.out]; exact T4.out, h44.out, h54.out, B6.out⟩
            · have HC2 : Hid (ct (l.take (k + 1)) D = ct (l.take k) D) := HCT.out.trans (by simp)
              clear HCT HP
              go_wp2
              go_roundg (l.length - (k + 1))
              case measure => omega
              case rel => exact ⟨k + 1, by omega, by go_num, by rw [HC2.out]; exact T3.out, h43.out, h53.out, B5'.out⟩
        · obtain rfl : k = l.length := by omega
          rw [List.take_length] at hT
          obtain ⟨r0, r1⟩ := h5.out.cells
          obtain ⟨s0, s1⟩ := h4.out.cells
          have f0 := h4.out.free 0
          have f1 := h4.out.free 1
          go_wp2
          have X9 : Tx ((wr.setCell ⟨w.heap.size, 0, none⟩ (.map (some K))).setCell ⟨w.heap.size, 1, none⟩ (.map (some Dm))) w.heap.size (some K) (some Dm) := by
            have e1 : Tx (wr.setCell ⟨w.heap.size, 0, none⟩ (.map (some K))) w.heap.size (some K) none := heap_setCell_same wr w.heap.size 0 _ 51 _ h4.out
            exact heap_setCell_same (wr.setCell ⟨w.heap.size, 0, none⟩ (.map (some K))) w.heap.size 1 _ 51 _ e1
          have B9 : Below w.heap.size w ((wr.setCell ⟨w.heap.size, 0, none⟩ (.map (some K))).setCell ⟨w.heap.size, 1, none⟩ (.map (some Dm))) := (hB.out.setCell (Nat.le_refl _) _).setCell (Nat.le_refl _) _
          have hne := hT.out.ne h4.out
          have T9 : Td ((wr.setCell ⟨w.heap.size, 0, none⟩ (.map (some K))).setCell ⟨w.heap.size, 1, none⟩ (.map (some Dm))) K Dm (ct l D) D := by
            refine hT.out.same ?_ ?_
            · exact (Below.heap_setCell _ _ _ K (fun e => hne.1 e.symm)).trans (Below.heap_setCell _ _ _ K (fun e => hne.1 e.symm))
            · exact (Below.heap_setCell _ _ _ Dm (fun e => hne.2 e.symm)).trans (Below.heap_setCell _ _ _ Dm (fun e => hne.2 e.symm))
          exact bodyPost_ret (run_res23 (B := w.heap.size) rfl X9) rfl ⟨K, Dm, rfl, T9, B9⟩
end Go.Proofs.YtgpciipemgljcaaGreat.Od

/-
  The walks of slices.IndexFunc and slices.ContainsFunc with ready's closure, which asks whether the node at a place lacks something. Conditions: at most 1000 places, each of them a node's.
-/
namespace Go.Proofs.YtgpciipemgljcaaGreat.Od
open Go.RowKit
open Go.Proofs.YtgpciipemgljcaaGreat.Gp (Br)
set_option linter.unusedVariables false

/-- A slice of bools in a box. -/
def Sx (w : World) (B g n : Nat) : Prop := w.heap[B]? = some (.cells #[.slice (some ⟨g, 0, none⟩) n n] 41 (0, 0))
theorem Sx.cell {w : World} {B g n : Nat} (h : Sx w B g n) : w.cell? ⟨B, 0, none⟩ = some (.slice (some ⟨g, 0, none⟩) n n) := by rw [cell_of_row w B 0 _ 41 _ h]; rfl
theorem Sx.lt {w : World} {B g n : Nat} (h : Sx w B g n) : B < w.heap.size := lt_of_block h
theorem lkc_any (k n B g : Nat) (f : Nat → Bool) (hk : k < n) (w : World) (hB : Sx w B g n) (hr : Br w g f n) : Calls Tryz.prog 51 #[.int .i64 (k : Int), .pointer (some ⟨B, 0, none⟩)] w (fun e w' => e = .returned (.bool (f k)) ∧ w' = w) := by
  have c1 := hB.cell
  have c2 := hr.cell hk
  have hki : (k : Int) < (n : Int) := by omega
  have hk0 : (0 : Int) ≤ (k : Int) := by omega
  generalize f k = r at *
  clear hB hr
  go_enter Tryz.func51, Tryz.ntmps51
  go_wp2
  go_ret
  exact ⟨rfl, rfl⟩
theorem lkix_any (A : Option Addr) (c : Nat) (xs : List Int) (n B g : Nat) (f : Nat → Bool) (hx : ∀ x ∈ xs, ∃ k : Nat, x = (k : Int) ∧ k < n) (r : Bool) (hr : r = xs.any fun x => f x.toNat) (hl : xs.length ≤ 1000) (w : World) (hs : Gp.Sl w w.heap.size A xs) (hB : Sx w B g n) (hf : Br w g f n) :
    Calls Tryz.prog 75 #[.slice A xs.length c, .func (.func 51) #[] #[.pointer (some ⟨B, 0, none⟩)]] w (fun e w' => ∃ z : Int, e = .returned (.int .i64 z) ∧ (0 ≤ z ↔ r = true) ∧ w' = w) := by
  have HS := Lib.hid hs
  have HR := Lib.hid hr
  have HX := Lib.hid hx
  have HB := Lib.hid hB
  have HF := Lib.hid hf
  clear hs hr hx hB hf
  go_enter Tryz.func75, Tryz.ntmps75
  go_wp2
  go_loopg [8] xs.length (fun q t wr => ∃ k : Nat, k + q = xs.length ∧ t = .int .i64 (k : Int) ∧ wr = w ∧ Hid (∀ j x, j < k → xs[j]? = some x → f x.toNat = false))
  case atStart => exact ⟨0, by omega, rfl, rfl, fun j x h => by omega⟩
  case round =>
    obtain ⟨k, hk, rfl, hW, hno⟩ := hrel
    subst hW
    by_cases hlt : k < xs.length
    · have hki : (k : Int) < (xs.length : Int) := by omega
      have hk0 : (0 : Int) ≤ (k : Int) := by omega
      have HE := Lib.hid (List.getElem?_eq_getElem hlt)
      obtain ⟨b, off, rfl, hb, q⟩ := HS.out.at_ hlt
      obtain ⟨m, hm, hmn⟩ := HX.out _ (List.getElem_mem hlt)
      rw [hm] at q HE
      have HC := Lib.hid (lkc_any m n B g f hmn wr HB.out HF.out)
      rcases hfm : f m with _ | _
      · rw [hfm] at HC
        have HN : Hid (∀ j x, j < k + 1 → xs[j]? = some x → f x.toNat = false) := fun j y hj hy => by
          rcases Nat.lt_or_ge j k with h | h
          · exact hno.out j y h hy
          · obtain rfl : j = k := by omega
            rw [HE.out] at hy
            cases hy
            exact hfm
        clear hfm hm
        go_wp2_with fail
        refine HC.out.mono ?_
        rintro e w1 ⟨rfl, rfl⟩
        go_wp2
        go_roundg (xs.length - (k + 1))
        case measure => omega
        case rel => exact ⟨k + 1, by omega, by go_num, by trivial, HN.out⟩
      · rw [hfm] at HC
        have HA : Hid ((0 : Int) ≤ (k : Int) ↔ r = true) := ⟨fun _ => by rw [HR.out]; exact List.any_eq_true.2 ⟨(m : Int), List.mem_of_getElem? HE.out, hfm⟩, fun _ => hk0⟩
        clear hfm hm
        go_wp2_with fail
        refine HC.out.mono ?_
        rintro e w1 ⟨rfl, rfl⟩
        go_wp2
        go_ret
        exact ⟨_, rfl, HA.out, rfl⟩
    · obtain rfl : k = xs.length := by omega
      have HA : Hid ((0 : Int) ≤ -1 ↔ r = true) := by
        show _ ↔ _
        rw [HR.out]
        constructor
        · intro h; omega
        · intro h
          obtain ⟨x, hx, h2⟩ := List.any_eq_true.1 h
          obtain ⟨i, hi⟩ := List.getElem?_of_mem hx
          have := hno.out i x (List.getElem?_eq_some_iff.1 hi).1 hi
          rw [this] at h2; cases h2
      go_wp2
      go_ret
      exact ⟨-1, rfl, HA.out, rfl⟩
theorem lkcf_any (A : Option Addr) (c : Nat) (xs : List Int) (n B g : Nat) (f : Nat → Bool) (hx : ∀ x ∈ xs, ∃ k : Nat, x = (k : Int) ∧ k < n) (hl : xs.length ≤ 1000) (w : World) (hs : Gp.Sl w w.heap.size A xs) (hB : Sx w B g n) (hf : Br w g f n) :
    Calls Tryz.prog 50 #[.slice A xs.length c, .func (.func 51) #[] #[.pointer (some ⟨B, 0, none⟩)]] w (fun e w' => e = .returned (.bool (xs.any fun x => f x.toNat)) ∧ w' = w) := by
  have HF := Lib.hid (lkix_any A c xs n B g f hx _ rfl hl w hs hB hf)
  generalize (xs.any fun x => f x.toNat) = r at *
  clear hs hB hf hx
  go_enter Tryz.func50, Tryz.ntmps50
  go_wp2_with fail
  refine HF.out.mono ?_
  rintro e w1 ⟨z, rfl, hz, rfl⟩
  rcases r with _ | _
  · have h : decide ((0 : Int) ≤ z) = false := decide_eq_false fun k => by have := hz.1 k; cases this
    clear hz
    go_wp2
    go_ret
    exact ⟨rfl, rfl⟩
  · have h : decide ((0 : Int) ≤ z) = true := decide_eq_true (hz.2 rfl)
    clear hz
    go_wp2
    go_ret
    exact ⟨rfl, rfl⟩

/-- What one of near deps waits for that is not known: whether there is such a thing. -/
theorem mq_lk {c : List No} {D : List Is} {n : No} (hn : n ∈ c) (hr : nr n = true) (h7 : n.d.length ≤ 7) : (!(mq n.d (kn c D) n.d.length).isEmpty) = lk (ms c D) n := by
  have h : lk (ms c D) n = true ↔ ∃ i, i ∈ mq n.d (kn c D) n.d.length := by
    rw [lk_iff hn hr h7]
    constructor
    · rintro ⟨i, h1, h2⟩
      have h3 := wa_dep h1
      exact ⟨i, mem_mq.2 ⟨⟨h3.2.1, h3.2.2.1, h3.1, h3.2.2.2.2⟩, h2⟩⟩
    · rintro ⟨i, hi⟩
      obtain ⟨⟨h1, h2, h3, h4⟩, h5⟩ := mem_mq.1 hi
      exact ⟨i, At.wt_iff.2 (by rw [At.dp_in (by omega)]; exact ⟨h3, h4⟩), h5⟩
  rw [Bool.eq_iff_iff, h]
  rcases (mq n.d (kn c D) n.d.length) with _ | ⟨y, r⟩
  · simp
  · simp
theorem kw_kn {cf : Is → Option No} {cl : List No} (h : Cf cf cl) (D : List Is) : kw cf D = kn cl D := by
  funext i
  unfold kw kn
  congr 1
  rw [Bool.eq_iff_iff]
  simp only [List.any_eq_true, decide_eq_true_eq]
  constructor
  · intro hs
    rcases hc : cf i with _ | n
    · rw [hc] at hs; cases hs
    · exact ⟨n, (h.m n).1 (by rw [h.i i n hc]; exact hc), h.i i n hc⟩
  · rintro ⟨n, hn, rfl⟩
    rw [(h.m n).2 hn]; rfl
theorem cf_ct {l : List No} {D : List Is} (hl : (cs l D).length ≤ 100) : Cf (ct l D) (cs l D) := ⟨fun a n h => (fs_some (ct_some.1 h).2).2.2, fun n => mem_cs.symm, hl⟩
end Go.Proofs.YtgpciipemgljcaaGreat.Od

/-
  The walks of edges, the program's and the document's. Conditions: at most 100 nodes.
-/
namespace Go.Proofs.YtgpciipemgljcaaGreat.Od
open Go.RowKit
open Go.Proofs.YtgpciipemgljcaaGreat.Gp (Es eg2 eg2_append eg2_len own_es info46)
set_option linter.unusedVariables false

theorem add3 (a b : Nat) : a + b + 1 + 2 = a + b + 3 := by omega
set_option maxHeartbeats 1000000 in
theorem edges_any (A : Option Addr) (c : Nat) (l : List No) (hl : l.length ≤ 100) (hf : Wf l) (w : World) (hs : Nl w w.heap.size A l) (hd : Dl w w.heap.size l) : Calls Tryz.prog 26 #[.slice A l.length c] w (EsPost w (ee l)) := by
  obtain ⟨i0, hi, hz0, hz1, hz2⟩ := info_parts info46
  have HS := Lib.hid hs
  have HD := Lib.hid hd
  have HF := Lib.hid hf
  have HEE : Hid (ee l = ek l l.length) := rfl
  generalize ee l = res at *
  clear hs hd hf
  go_enter Tryz.func26, Tryz.ntmps26
  go_wp2
  go_loopg [3, 10] l.length (fun q v t W => ∃ k : Nat, k + q = l.length ∧ t = .int .i64 (k : Int) ∧ Hid (W.ownsRow w.heap.size 46 2 v (ek l k).length (eg2 (ek l k))) ∧ Hid (Below w.heap.size w W))
  case atStart => exact ⟨0, by omega, rfl, World.ownsRow_nil _ _ _ _, Below.refl _ _⟩
  case round =>
    obtain ⟨k, hk, rfl, hown, hB⟩ := hrel
    by_cases hlt : k < l.length
    · have hki : (k : Int) < (l.length : Int) := by omega
      have hk0 : (0 : Int) ≤ (k : Int) := by omega
      have HX := Lib.hid (List.getElem?_eq_getElem hlt)
      have hmem := List.getElem_mem hlt
      obtain ⟨b, off, rfl, hb, p0, p1, p2, p3⟩ := (HS.out.below hB.out (Nat.le_refl _)).at_ HX.out
      have NX := Lib.hid (nb_new wr l[k])
      have HDX := Lib.hid (HD.out _ hmem)
      generalize l[k] = x at *
      have hsz := hB.out.size
      have H7 := Lib.hid (hown.out.alloc (no x))
      have HB1 := Lib.hid (hB.out.alloc hsz (no x))
      obtain ⟨xb, xs, xq, xd, xh, xc⟩ := x
      simp only [no] at *
      clear hown hB
      go_wp2
      have hBl : w.heap.size ≤ wr.heap.size := hsz
      generalize hBB : wr.heap.size = B at *
      have HZ : B < (wr.alloc (.cells #[.int .i64 xb, .int .i64 xs, .int .i64 xq, .slice xh xd.length xc] 30)).heap.size := NX.out.lt
      generalize (wr.alloc (.cells #[.int .i64 xb, .int .i64 xs, .int .i64 xq, .slice xh xd.length xc] 30)) = W1 at *
      clear p0 p1 p2 p3
      go_loopg [3, 17] l.length (fun q v t W => ∃ j : Nat, j + q = l.length ∧ t = .int .i64 (j : Int) ∧ Hid (W.ownsRow w.heap.size 46 2 v (ek l k ++ er l k j).length (eg2 (ek l k ++ er l k j))) ∧ Hid (Nb W B ⟨xb, xs, xq, xd, xh, xc⟩) ∧ Hid (Below w.heap.size w W))
      case atStart => exact ⟨0, by omega, rfl, by rw [er_zero, List.append_nil]; exact H7.out, NX.out, HB1.out⟩
      case round =>
        obtain ⟨j, hj, rfl, hown, hN, hB⟩ := hrel
        clear H7 NX HB1
        have ⟨x0, x1, x2, x3⟩ := hN.out.nr
        by_cases hjt : j < l.length
        · have hji : (j : Int) < (l.length : Int) := by omega
          have hj0 : (0 : Int) ≤ (j : Int) := by omega
          have HY := Lib.hid (List.getElem?_eq_getElem hjt)
          have hmemy := List.getElem_mem hjt
          obtain ⟨b2, off2, e2, hb2, p0, p1, p2, p3⟩ := (HS.out.below hB.out (Nat.le_refl _)).at_ HY.out
          cases e2
          have HFY := Lib.hid ((HF.out _ hmemy).1.1.2)
          have NY := Lib.hid (nb_new wr l[j])
          generalize l[j] = y at *
          have hsz2 := hB.out.size
          have H8 := Lib.hid (hown.out.alloc (no y))
          have HB2 := Lib.hid (hB.out.alloc hsz2 (no y))
          have HN2 := Lib.hid (hN.out.old (no y))
          have HW := Lib.hid (wb_at HX.out HY.out)
          have HSl := Lib.hid (HDX.out.to HB2.out HB2.out.size)
          have HC := Lib.hid (At.waits_any xq y.b y.s xh xc xd (wr.alloc (no y)) HSl.out HFY.out)
          have HWt : Hid (At.wt xd y.b y.s = wb l k j) := HW.out.symm
          clear HSl HFY HW
          generalize At.wt xd y.b y.s = r at *
          obtain ⟨yb, ys, yq, yd, yh, yc⟩ := y
          simp only [no] at *
          have ⟨x0', x1', x2', x3'⟩ := HN2.out.nr
          have ⟨y0, y1, y2, y3⟩ := NY.out.nr
          clear hown hB hN
          go_wp2_with fail
          refine HC.out.mono ?_
          rintro e w2 ⟨rfl, B2⟩
          have HN3 := Lib.hid (HN2.out.on B2 HN2.out.lt)
          have HB3 := Lib.hid (HB2.out.trans (B2.mono HB2.out.size))
          have H9 := Lib.hid (ownk H8.out B2)
          clear HC H8 HB2 HN2 B2 x0' x1' x2' x3' p0 p1 p2 p3 y0 y1 y2 y3
          rcases r with _ | _
          · have HE := Lib.hid (er_no HWt.out.symm)
            go_wp2
            go_roundg (l.length - (j + 1))
            case measure => omega
            case rel => exact ⟨j + 1, by omega, by go_num, by rw [HE.out]; exact H9.out, HN3.out, HB3.out⟩
          · have HE := Lib.hid (er_yes HWt.out.symm)
            have H10 := Lib.hid (H9.out.alloc (.cells #[.int .i64 (k : Int), .int .i64 (j : Int)] 46))
            have HN4 := Lib.hid (HN3.out.old (.cells #[.int .i64 (k : Int), .int .i64 (j : Int)] 46))
            have HB4 := Lib.hid (HB3.out.alloc HB3.out.size (.cells #[.int .i64 (k : Int), .int .i64 (j : Int)] 46))
            have hsz3 := HB3.out.size
            have hek := ek_len l k
            have her := er_len l k j
            have hkl : k * l.length ≤ 100 * 100 := Nat.mul_le_mul (by omega) hl
            have hel : (ek l k ++ er l k j).length ≤ 11000 := by rw [List.length_append]; omega
            clear H9 HN3 HB3 hek her hkl
            go_wp2_with (at_builtin; refine wpList_append_own_at _ rfl _ _ 44 rfl w.heap.size 46 i0 (.agg #[.int .i64 0, .int .i64 0]) 2 16 Tryz.underlying44 hi hz0 hz1 hz2 rfl (by decide) _ (ek l k ++ er l k j).length (eg2 (ek l k ++ er l k j)) rfl H10.out ⟨w2.heap.size, 0, none⟩ 1 1 [.int .i64 (k : Int), .int .i64 (j : Int)] rfl rfl (cell_two_new _ _ _ _) (by simp [Value.oneCell']) (by unfold maxLen; omega) (by omega) (by simp; omega) ?_; intro v' w5 hown5 hgrow5 _ hat5)
            have HN5 := Lib.hid (HN4.out.grown H10.out hgrow5 (by decide))
            have HB5 := Lib.hid (HB4.out.grown hgrow5 HB4.out.size (fun r hr => (H10.out.lt r hr).1))
            have H11 : Hid (w5.ownsRow w.heap.size 46 2 v' (ek l k ++ er l k (j + 1)).length (eg2 (ek l k ++ er l k (j + 1)))) := by
              show World.ownsRow _ _ _ _ _ _ _
              rw [HE.out, ← List.append_assoc, List.length_append, eg2_append]
              exact hown5
            clear hown5 hgrow5 H10 HN4 HB4
            go_wp2
            go_roundg (l.length - (j + 1))
            case measure => omega
            case rel => exact ⟨j + 1, by omega, by go_num, H11.out, HN5.out, HB5.out⟩
        · obtain rfl : j = l.length := by omega
          have H8 : Hid (wr.ownsRow w.heap.size 46 2 u3 (ek l (k + 1)).length (eg2 (ek l (k + 1)))) := by
            show World.ownsRow _ _ _ _ _ _ _
            rw [ek_succ]
            exact hown.out
          go_wp2
          go_roundg (l.length - (k + 1))
          case measure => omega
          case rel => exact ⟨k + 1, by omega, by go_num, H8.out, hB.out⟩
    · obtain rfl : k = l.length := by omega
      have HR : Hid (∃ A c, u3 = .slice A res.length c ∧ Es wr wr.heap.size A res) := by
        show ∃ A c, _
        rw [HEE.out]
        exact own_es hown.out rfl
      go_wp2
      go_ret
      obtain ⟨A', c', h1, h2⟩ := HR.out
      exact ⟨A', c', by rw [← h1]; rfl, h2, hB.out⟩
end Go.Proofs.YtgpciipemgljcaaGreat.Od

/-
  The walk of the document's edges. Conditions: at most 100 nodes.
-/
namespace Go.Proofs.YtgpciipemgljcaaGreat.Od
open Go.RowKit
open Go.Proofs.YtgpciipemgljcaaGreat.Gp (Es eg2 eg2_append eg2_len own_es info46)
set_option linter.unusedVariables false

set_option maxHeartbeats 1000000 in
theorem redges_any (A : Option Addr) (c : Nat) (l : List No) (hl : l.length ≤ 100) (hf : Wf l) (w : World) (hs : Nl w w.heap.size A l) (hd : Dl w w.heap.size l) : Calls Tryz.prog 33 #[.slice A l.length c] w (EsPost w (ee l)) := by
  obtain ⟨i0, hi, hz0, hz1, hz2⟩ := info_parts info46
  have HS := Lib.hid hs
  have HD := Lib.hid hd
  have HF := Lib.hid hf
  have HEE : Hid (ee l = ek l l.length) := rfl
  generalize ee l = res at *
  clear hs hd hf
  go_enter Tryz.func33, Tryz.ntmps33
  go_wp2
  go_loopg [3, 4] l.length (fun q v t W => ∃ k : Nat, k + q = l.length ∧ t = .int .i64 (k : Int) ∧ Hid (W.ownsRow w.heap.size 46 2 v (ek l k).length (eg2 (ek l k))) ∧ Hid (Below w.heap.size w W))
  case atStart => exact ⟨0, by omega, rfl, World.ownsRow_nil _ _ _ _, Below.refl _ _⟩
  case round =>
    obtain ⟨k, hk, rfl, hown, hB⟩ := hrel
    by_cases hlt : k < l.length
    · have hki : (k : Int) < (l.length : Int) := by omega
      have hk0 : (0 : Int) ≤ (k : Int) := by omega
      have HX := Lib.hid (List.getElem?_eq_getElem hlt)
      have HDX := Lib.hid (HD.out _ (List.getElem_mem hlt))
      generalize l[k] = x at *
      go_wp2
      go_loopg [3, 5] l.length (fun q v t W => ∃ j : Nat, j + q = l.length ∧ t = .int .i64 (j : Int) ∧ Hid (W.ownsRow w.heap.size 46 2 v (ek l k ++ er l k j).length (eg2 (ek l k ++ er l k j))) ∧ Hid (Below w.heap.size w W))
      case atStart => exact ⟨0, by omega, rfl, by rw [er_zero, List.append_nil]; exact hown.out, hB.out⟩
      case round =>
        clear hown hB
        obtain ⟨j, hj, rfl, hown, hB⟩ := hrel
        by_cases hjt : j < l.length
        · have hji : (j : Int) < (l.length : Int) := by omega
          have hj0 : (0 : Int) ≤ (j : Int) := by omega
          have HY := Lib.hid (List.getElem?_eq_getElem hjt)
          have hmemy := List.getElem_mem hjt
          have hsz := hB.out.size
          have hNl := HS.out.below hB.out (Nat.le_refl _)
          obtain ⟨b, off, rfl, hb, p0, p1, p2, p3⟩ := hNl.at_ HX.out
          obtain ⟨b2, off2, e2, hb2, r0, r1, r2, r3⟩ := hNl.at_ HY.out
          cases e2
          have HFY := Lib.hid ((HF.out _ hmemy).1.1.2)
          generalize l[j] = y at *
          have HW : Hid (wb l k j = At.wt x.d y.b y.s) := wb_at HX.out HY.out
          have HSl := Lib.hid (HDX.out.to hB.out hsz)
          have hbl : b < wr.heap.size := by omega
          obtain ⟨xb, xs, xq, xd, xh, xc⟩ := x
          obtain ⟨yb, ys, yq, yd, yh, yc⟩ := y
          simp only at *
          have KS : Hid (∀ v v', Below v.heap.size v v' → ((v.cell? ⟨b, off + k * 4 + 2, none⟩ = some (.int .i64 xq) ∧ v.cell? ⟨b, off + k * 4 + 3, none⟩ = some (.slice xh xd.length xc) ∧ v.cell? ⟨b, off + j * 4, none⟩ = some (.int .i64 yb) ∧ v.cell? ⟨b, off + j * 4 + 1, none⟩ = some (.int .i64 ys)) ∧ Below wr.heap.size wr v) → ((v'.cell? ⟨b, off + k * 4 + 2, none⟩ = some (.int .i64 xq) ∧ v'.cell? ⟨b, off + k * 4 + 3, none⟩ = some (.slice xh xd.length xc) ∧ v'.cell? ⟨b, off + j * 4, none⟩ = some (.int .i64 yb) ∧ v'.cell? ⟨b, off + j * 4 + 1, none⟩ = some (.int .i64 ys)) ∧ Below wr.heap.size wr v')) := fun v v' hb' hS => by
            have hc : ∀ j, v'.cell? ⟨b, j, none⟩ = v.cell? ⟨b, j, none⟩ := fun j => World.cell?_of_block (hb'.block b (Nat.lt_of_lt_of_le hbl hS.2.size))
            exact ⟨⟨(hc _).trans hS.1.1, (hc _).trans hS.1.2.1, (hc _).trans hS.1.2.2.1, (hc _).trans hS.1.2.2.2⟩, hS.2.trans (hb'.mono hS.2.size)⟩
          have S0 : (wr.cell? ⟨b, off + k * 4 + 2, none⟩ = some (.int .i64 xq) ∧ wr.cell? ⟨b, off + k * 4 + 3, none⟩ = some (.slice xh xd.length xc) ∧ wr.cell? ⟨b, off + j * 4, none⟩ = some (.int .i64 yb) ∧ wr.cell? ⟨b, off + j * 4 + 1, none⟩ = some (.int .i64 ys)) ∧ Below wr.heap.size wr wr := ⟨⟨p2, p3, r0, r1⟩, Below.refl _ _⟩
          have KD : Hid (∀ v, ((v.cell? ⟨b, off + k * 4 + 2, none⟩ = some (.int .i64 xq) ∧ v.cell? ⟨b, off + k * 4 + 3, none⟩ = some (.slice xh xd.length xc) ∧ v.cell? ⟨b, off + j * 4, none⟩ = some (.int .i64 yb) ∧ v.cell? ⟨b, off + j * 4 + 1, none⟩ = some (.int .i64 ys)) ∧ Below wr.heap.size wr v) → ((v.drew.cell? ⟨b, off + k * 4 + 2, none⟩ = some (.int .i64 xq) ∧ v.drew.cell? ⟨b, off + k * 4 + 3, none⟩ = some (.slice xh xd.length xc) ∧ v.drew.cell? ⟨b, off + j * 4, none⟩ = some (.int .i64 yb) ∧ v.drew.cell? ⟨b, off + j * 4 + 1, none⟩ = some (.int .i64 ys)) ∧ Below wr.heap.size wr v.drew)) := fun v hS => KS.out _ _ (Below.refl _ _).drew hS
          have HC : ∀ W, ((W.cell? ⟨b, off + k * 4 + 2, none⟩ = some (.int .i64 xq) ∧ W.cell? ⟨b, off + k * 4 + 3, none⟩ = some (.slice xh xd.length xc) ∧ W.cell? ⟨b, off + j * 4, none⟩ = some (.int .i64 yb) ∧ W.cell? ⟨b, off + j * 4 + 1, none⟩ = some (.int .i64 ys)) ∧ Below wr.heap.size wr W) → Hid (Calls Tryz.prog 61 #[.agg #[.int .i64 xq, .slice xh xd.length xc], .agg #[.int .i64 yb, .int .i64 ys]] W (At.BoolPost W (At.wt xd yb ys))) := fun W hW => At.rwaits_any xq yb ys xh xc xd W (HSl.out.up hW.2) HFY.out
          clear HSl HFY p0 p1 r2 r3 p2 p3 r0 r1 hNl
          generalize At.wt xd yb ys = r at *
          obtain ⟨p2, p3, r0, r1⟩ := S0.1
          go_wp2_with fail
          go_region_held3 (fun v => (v.cell? ⟨b, off + k * 4 + 2, none⟩ = some (.int .i64 xq) ∧ v.cell? ⟨b, off + k * 4 + 3, none⟩ = some (.slice xh xd.length xc) ∧ v.cell? ⟨b, off + j * 4, none⟩ = some (.int .i64 yb) ∧ v.cell? ⟨b, off + j * 4 + 1, none⟩ = some (.int .i64 ys)) ∧ Below wr.heap.size wr v)
            (first | (exact S0) | (exact KD.out _ S0) | (refine KS.out _ _ hb1 ?_; first | assumption | exact KD.out _ S0) | (refine KD.out _ ?_; assumption))
            (first | (go_at_call 61; (with_reducible refine (HC _ ?_).out.mono ?_); (focus (first | assumption | exact KD.out _ S0)); rintro e wa ⟨rfl, hb1⟩))
          rename_i hSx
          have HB3 := Lib.hid (hB.out.trans (hSx.2.mono hsz))
          have H9 := Lib.hid (ownk hown.out hSx.2)
          clear KS KD HC S0 hSx hown hB p2 p3 r0 r1
          rcases r with _ | _
          · have HE := Lib.hid (er_no HW.out)
            go_wp2
            go_roundg (l.length - (j + 1))
            case measure => omega
            case rel => exact ⟨j + 1, by omega, by go_num, by rw [HE.out]; exact H9.out, HB3.out⟩
          · have HE := Lib.hid (er_yes HW.out)
            have H10 := Lib.hid (H9.out.alloc (.cells #[.int .i64 (k : Int), .int .i64 (j : Int)] 46))
            have HB4 := Lib.hid (HB3.out.alloc HB3.out.size (.cells #[.int .i64 (k : Int), .int .i64 (j : Int)] 46))
            have hsz3 := HB3.out.size
            have hek := ek_len l k
            have her := er_len l k j
            have hkl : k * l.length ≤ 100 * 100 := Nat.mul_le_mul (by omega) hl
            have hel : (ek l k ++ er l k j).length ≤ 11000 := by rw [List.length_append]; omega
            clear H9 HB3 hek her hkl
            go_wp2_with (at_builtin; refine wpList_append_own_at _ rfl _ _ 44 rfl w.heap.size 46 i0 (.agg #[.int .i64 0, .int .i64 0]) 2 16 Tryz.underlying44 hi hz0 hz1 hz2 rfl (by decide) _ (ek l k ++ er l k j).length (eg2 (ek l k ++ er l k j)) rfl H10.out ⟨wa.heap.size, 0, none⟩ 1 1 [.int .i64 (k : Int), .int .i64 (j : Int)] rfl rfl (cell_two_new _ _ _ _) (by simp [Value.oneCell']) (by unfold maxLen; omega) (by omega) (by simp; omega) ?_; intro v' w5 hown5 hgrow5 _ hat5)
            have HB5 := Lib.hid (HB4.out.grown hgrow5 HB4.out.size (fun r hr => (H10.out.lt r hr).1))
            have H11 : Hid (w5.ownsRow w.heap.size 46 2 v' (ek l k ++ er l k (j + 1)).length (eg2 (ek l k ++ er l k (j + 1)))) := by
              show World.ownsRow _ _ _ _ _ _ _
              rw [HE.out, ← List.append_assoc, List.length_append, eg2_append]
              exact hown5
            clear hown5 hgrow5 H10 HB4
            go_wp2
            go_roundg (l.length - (j + 1))
            case measure => omega
            case rel => exact ⟨j + 1, by omega, by go_num, H11.out, HB5.out⟩
        · obtain rfl : j = l.length := by omega
          have H8 : Hid (wr.ownsRow w.heap.size 46 2 u3 (ek l (k + 1)).length (eg2 (ek l (k + 1)))) := by
            show World.ownsRow _ _ _ _ _ _ _
            rw [ek_succ]
            exact hown.out
          go_wp2
          go_roundg (l.length - (k + 1))
          case measure => omega
          case rel => exact ⟨k + 1, by omega, by go_num, H8.out, hB.out⟩
    · obtain rfl : k = l.length := by omega
      have HR : Hid (∃ A c, u3 = .slice A res.length c ∧ Es wr wr.heap.size A res) := by
        show ∃ A c, _
        rw [HEE.out]
        exact own_es hown.out rfl
      go_wp2
      go_ret
      obtain ⟨A', c', h1, h2⟩ := HR.out
      exact ⟨A', c', by rw [← h1]; rfl, h2, hB.out⟩
end Go.Proofs.YtgpciipemgljcaaGreat.Od

/-
  Which nodes are ready, told of what graph's Closure gives; the row of those that lack something. No program's function is walked here. Conditions: at most 30 nodes.
-/
namespace Go.Proofs.YtgpciipemgljcaaGreat.Od
open Go.RowKit
open Go.Proofs.YtgpciipemgljcaaGreat.Gp (Br cz clo mem_clo zs Rt)
set_option linter.unusedVariables false

/-- Whether the node at a place lacks something; of the first ones. -/
def lv (c : List No) (D : List Is) (j : Nat) : Bool := match c[j]? with
  | some x => lk (ms c D) x
  | none => false
theorem lv_at {c : List No} {D : List Is} {j : Nat} {x : No} (h : c[j]? = some x) : lv c D j = lk (ms c D) x := by simp only [lv, h]
def lvk (c : List No) (D : List Is) (k j : Nat) : Bool := decide (j < k) && lv c D j
theorem lvk_zero (c : List No) (D : List Is) (j : Nat) : lvk c D 0 j = false := by simp [lvk]
theorem lvk_step (c : List No) (D : List Is) (k j : Nat) : lvk c D (k + 1) j = if j = k then lv c D k else lvk c D k j := by
  unfold lvk
  by_cases h : j = k
  · subst h; simp
  · rw [if_neg h]
    have e : decide (j < k + 1) = decide (j < k) := by
      rw [decide_eq_decide]
      omega
    rw [e]
theorem cz_eq {c : List No} (hl : c.length ≤ 100) {k : Nat} (hk : k < c.length) : cz (c.length : Int) (ee c) (k : Int) = clo (Wg c) c.length k := by
  unfold Gp.cz
  rw [ed_ee hl, am_len hl, if_pos ⟨by omega, by omega⟩]
  rfl
theorem gd_any {c : List No} (hl : c.length ≤ 100) (D : List Is) {k : Nat} (hk : k < c.length) : gd c D k = !((zs (cz (c.length : Int) (ee c) (k : Int))).any fun x => lvk c D c.length x.toNat) := by
  rw [cz_eq hl hk, Bool.eq_iff_iff, gd_iff]
  simp only [Bool.not_eq_true', List.any_eq_false, zs, List.mem_map]
  constructor
  · rintro h x ⟨j, hj, rfl⟩
    have h1 := mem_clo.1 hj
    have h2 := h j h1.2 _ (List.getElem?_eq_getElem h1.1)
    simp only [Int.toNat_natCast, lvk, lv_at (List.getElem?_eq_getElem h1.1), h2, Bool.and_false]
    simp
  · intro h j hr x hx
    have hj := (List.getElem?_eq_some_iff.1 hx).1
    have := h (j : Int) ⟨j, mem_clo.2 ⟨hj, hr⟩, rfl⟩
    simpa [lvk, lv_at hx, hj] using this
theorem zs_in {c : List No} (hl : c.length ≤ 100) {k : Nat} (hk : k < c.length) : ∀ x ∈ zs (cz (c.length : Int) (ee c) (k : Int)), ∃ j : Nat, x = (j : Int) ∧ j < c.length := by
  rw [cz_eq hl hk]
  intro x hx
  simp only [zs, List.mem_map] at hx
  obtain ⟨j, hj, rfl⟩ := hx
  exact ⟨j, rfl, (mem_clo.1 hj).1⟩

/-- The bool in a cell. -/
def rb4 (v : World) (p : Addr) : Bool := match v.cell? p with
  | some (.bool b) => b
  | _ => false
theorem rb4_of {v : World} {p : Addr} {b : Bool} (h : v.cell? p = some (.bool b)) : v.cell? p = some (.bool (rb4 v p)) := by
  unfold rb4
  rw [h]

/-- The boxes of ready at the store into its row of bools. -/
structure Zr (w4 : World) (B1 K Dm B5 B7 g m k : Nat) (f : Nat → Bool) (x : No) (v : World) : Prop where
  t : Tx v B1 (some K) (some Dm)
  s : Sx v B5 g m
  n : Nb v B7 x
  r : ∃ h, Br v g h m ∧ ∀ j, j < m → j ≠ k → h j = f j
  b : Below w4.heap.size w4 v
section
variable {w4 v v' : World} {B1 K Dm B5 B7 g m k : Nat} {f : Nat → Bool} {x : No}
theorem Zr.up (h : Zr w4 B1 K Dm B5 B7 g m k f x v) (hb : Below v.heap.size v v') : Zr w4 B1 K Dm B5 B7 g m k f x v' := by
  obtain ⟨q, h1, h2⟩ := h.r
  exact ⟨h.t.up hb, (hb.block B5 h.s.lt).trans h.s, h.n.on hb h.n.lt, ⟨q, Gp.Tb.on h1 hb (Gp.Tb.lt h1), h2⟩, h.b.trans (hb.mono h.b.size)⟩
theorem Zr.set (h : Zr w4 B1 K Dm B5 B7 g m k f x v) (hg : w4.heap.size ≤ g) (b : Bool) : Zr w4 B1 K Dm B5 B7 g m k f x (v.setCell ⟨g, k, none⟩ (.bool b)) := by
  obtain ⟨q, h1, h2⟩ := h.r
  have hrow : v.heap[g]? = some (.cells (Gp.tab (fun j => .bool (q j)) m) 4 (0, 0)) := h1
  have ne : ∀ (B : Nat) (cs : Array Value) (t : TypeId), v.heap[B]? = some (.cells cs t (0, 0)) → t ≠ 4 → B ≠ g := fun B cs t hB ht => by
    rintro rfl
    rw [hrow] at hB
    simp only [Option.some.injEq, Obj.cells.injEq] at hB
    exact ht hB.2.1.symm
  refine ⟨(Below.heap_setCell v _ _ B1 (ne B1 _ 51 h.t (by decide))).trans h.t, (Below.heap_setCell v _ _ B5 (ne B5 _ 41 h.s (by decide))).trans h.s, (Below.heap_setCell v _ _ B7 (ne B7 _ 30 h.n (by decide))).trans h.n, ⟨_, h1.set k b, fun j hj hk => ?_⟩, h.b.setCell hg _⟩
  simp only [if_neg hk]
  exact h2 j hj hk
theorem Zr.cell (h : Zr w4 B1 K Dm B5 B7 g m k f x v) (hk : k < m) : v.cell? ⟨g, k, none⟩ = some (.bool (rb4 v ⟨g, k, none⟩)) := by
  obtain ⟨q, h1, h2⟩ := h.r
  exact rb4_of (h1.cell hk)
theorem Zr.free (h : Zr w4 B1 K Dm B5 B7 g m k f x v) : v.frozen? ⟨g, k, none⟩ = false := by
  obtain ⟨q, h1, h2⟩ := h.r
  exact Gp.Tb.free h1 k
theorem Zr.row (h : Zr w4 B1 K Dm B5 B7 g m k f x v) (b : Bool) : Br (v.setCell ⟨g, k, none⟩ (.bool b)) g (fun j => if j = k then b else f j) m := by
  obtain ⟨q, h1, h2⟩ := h.r
  refine (h1.set k b).congr fun j hj => ?_
  by_cases e : j = k
  · simp [e]
  · simp only [if_neg e]; exact h2 j hj e
end
end Go.Proofs.YtgpciipemgljcaaGreat.Od
