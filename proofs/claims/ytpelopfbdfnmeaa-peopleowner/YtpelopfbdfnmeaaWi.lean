/-
  The walks of with and without: a copy of a list of members with one more, or one less. Conditions: at most 1000 members; the place is in the list.
-/
import Derived.Test.YtpelopfbdfnmeaaMay
import Derived.Laws.CopyOwn
import Derived.Laws.OwnMore
import Derived.Deep.RegionLaw
namespace Go.Proofs.Ytpelopfbdfnmeaa
open Go.RowKit
set_option linter.unusedVariables false

theorem elem_size (W : World) : (sizeOf (Try.prog.elem 22)).run Try.prog W = .ok 1 W := by
  have : Try.prog.elem 22 = 3 := by kernel_rfl
  rw [this]
  simp [go_sem]
theorem elem_under : Try.prog.underlying 22 = some (.slice (Try.prog.elem 22)) := by kernel_rfl
theorem size3 : (Try.prog.info? 3).map (·.size) = some 1 := by kernel_rfl

theorem Sl.at_add {w : World} {B : Nat} {A : Option Addr} {xs : List Int} (h : Sl w B .i64 A xs) (c k : Nat) (hk : k ≤ xs.length) (hc : xs.length ≤ c) : Sl w B .i64 (if c = k then A else A.map (·.add (k * 1))) (xs.drop k) := by
  by_cases hck : c = k
  · rw [List.drop_of_length_le (by omega)]; exact Sl.nil
  · rw [if_neg hck]
    rcases h with rfl | ⟨b, off, rfl, hb, hcell⟩
    · simp; exact Sl.nil
    · have : Sl w B .i64 (some ⟨b, off, none⟩) xs := .inr ⟨b, off, rfl, hb, hcell⟩
      simp only [Option.map_some, Nat.mul_one, Addr.add_lit]
      exact this.drop k

/-- What 's[:k]' is. -/
theorem head_run {w : World} {B : Nat} {A : Option Addr} {xs : List Int} (h : Sl w B .i64 A xs) (c k : Nat) (l : Int) (hl : l = (k : Int)) (hk : k ≤ xs.length) (hc : xs.length ≤ c) :
    ∃ A', (∀ W, (Instr.sliceAt 22 (.slice A xs.length c) none (some (.int .i64 l)) none).run Try.prog W = .ok (.slice A' k c) W) ∧
      (∀ W, (Instr.slice 22 (.slice A xs.length c) none (some (.int .i64 l)) none).run Try.prog W = .ok (.slice A' k c) W) ∧ Sl w B .i64 A' (xs.take k) := by
  subst hl
  have h2 : ∀ W, (Instr.slice 22 (.slice A xs.length c) none (some (.int .i64 (k : Int))) none).run Try.prog W = .ok (.slice (if c = 0 then A else A.map (·.add (0 * 1))) k c) W := fun W => by
    rw [run_slice_h W 22 A xs.length c elem_under .i64 k (by omega) (by omega), elem_size]
    simp [sliced]
  refine ⟨if c = 0 then A else A.map (·.add (0 * 1)), fun W => by rw [run_sliceAt_slice W 22 _ _ _ _ elem_under]; exact h2 W, h2, ?_⟩
  have := (h.at_add c 0 (Nat.zero_le _) hc)
  rw [List.drop_zero] at this
  exact this.take k
/-- What 's[k:]' is. -/
theorem tail_run {w : World} {B : Nat} {A : Option Addr} {xs : List Int} (h : Sl w B .i64 A xs) (c k : Nat) (l : Int) (hl : l = (k : Int)) (hk : k ≤ xs.length) (hc : xs.length ≤ c) :
    ∃ A', (∀ W, (Instr.sliceAt 22 (.slice A xs.length c) (some (.int .i64 l)) none none).run Try.prog W = .ok (.slice A' (xs.length - k) (c - k)) W) ∧
      (∀ W, (Instr.slice 22 (.slice A xs.length c) (some (.int .i64 l)) none none).run Try.prog W = .ok (.slice A' (xs.length - k) (c - k)) W) ∧ Sl w B .i64 A' (xs.drop k) := by
  subst hl
  have h2 : ∀ W, (Instr.slice 22 (.slice A xs.length c) (some (.int .i64 (k : Int))) none none).run Try.prog W = .ok (.slice (if c = k then A else A.map (·.add (k * 1))) (xs.length - k) (c - k)) W := fun W => by
    rw [run_slice_l W 22 A xs.length c elem_under .i64 k (by omega) (by omega), elem_size]
    simp [sliced]
  exact ⟨if c = k then A else A.map (·.add (k * 1)), fun W => by rw [run_sliceAt_slice W 22 _ _ _ _ elem_under]; exact h2 W, h2, h.at_add c k hk hc⟩
/-- What 'own[k:]' is, of a row of the call's own. -/
theorem own_tail (g m k : Nat) (l : Int) (hl : l = (k : Int)) (hk : k ≤ m) :
    (∀ W, (Instr.sliceAt 22 (.slice (some ⟨g, 0, none⟩) m m) (some (.int .i64 l)) none none).run Try.prog W = .ok (.slice (if m = k then some ⟨g, 0, none⟩ else some ⟨g, k, none⟩) (m - k) (m - k)) W) ∧
      (∀ W, (Instr.slice 22 (.slice (some ⟨g, 0, none⟩) m m) (some (.int .i64 l)) none none).run Try.prog W = .ok (.slice (if m = k then some ⟨g, 0, none⟩ else some ⟨g, k, none⟩) (m - k) (m - k)) W) := by
  subst hl
  have h2 : ∀ W, (Instr.slice 22 (.slice (some ⟨g, 0, none⟩) m m) (some (.int .i64 (k : Int))) none none).run Try.prog W = .ok (.slice (if m = k then some ⟨g, 0, none⟩ else some ⟨g, k, none⟩) (m - k) (m - k)) W := fun W => by
    rw [run_slice_l W 22 (some ⟨g, 0, none⟩) m m elem_under .i64 k (by omega) (by omega), elem_size]
    simp [sliced, Addr.add_lit]
  exact ⟨fun W => by rw [run_sliceAt_slice W 22 _ _ _ _ elem_under]; exact h2 W, h2⟩

theorem make_run (n : Nat) (hn : n ≤ 1001) (x : Int) (hx : x = (n : Int)) : ∀ W, (Instr.makeSlice 22 (.int .i64 x) (.int .i64 x)).run Try.prog W = .ok (.slice (some ⟨W.heap.size, 0, none⟩) n n) (W.alloc (.cells (madeCells #[.int .i64 0] n) 3)) := fun W => by
  subst hx
  obtain ⟨i, h1, h2, h3, h4⟩ := info_parts info3
  have hr := run_make (P := Try.prog) W 22 3 i _ Try.underlying22 h1 h2 .i64 .i64 n n (by omega) (Int.le_refl _) (by rw [h4]; omega) (by omega)
  simp only [Int.toNat_natCast, h3, Nat.mul_one] at hr
  exact hr
theorem rx_zeros (w : World) (n : Nat) : Rx (w.alloc (.cells (madeCells #[.int .i64 0] n) 3)) w.heap.size (List.replicate n 0) := by
  have e : madeCells #[.int .i64 0] n = ((List.replicate n (0 : Int)).map (Value.int .i64)).toArray := by
    have := made_ints n
    rw [Nat.mul_one] at this
    rw [← this]
    rfl
  unfold Rx
  rw [← e]
  exact heap_alloc_new w _

theorem ints_map_one (xs : List Int) : ∀ v ∈ xs.map (Value.int .i64), v.oneCell' = true := by
  intro v hv
  obtain ⟨x, -, rfl⟩ := List.mem_map.1 hv
  rfl
/-- What is copied stands behind an address, if there is any. -/
theorem src_cells {w : World} {B : Nat} {A : Option Addr} {ys : List Int} (h : Sl w B .i64 A ys) (hp : 0 < (ys.map (Value.int .i64)).length) :
    ∃ ad, A = some ad ∧ ∀ j v, (ys.map (Value.int .i64))[j]? = some v → w.cell? (ad.add j) = some v := by
  rcases h with rfl | ⟨b, off, rfl, _, hc⟩
  · simp at hp
  · refine ⟨_, rfl, fun j v hv => ?_⟩
    rw [List.getElem?_map] at hv
    obtain ⟨x, hx, rfl⟩ := Option.map_eq_some_iff.1 hv
    rw [Addr.add_lit]
    exact hc j x hx
/-- A copy to the head of a row of the call's own. -/
theorem copy_run {w : World} {B g k m c d : Nat} {A : Option Addr} {ys zs : List Int} (hs : Sl w B .i64 A ys) (hk : ys.length = k) (hg : Rx w g zs) (hm : zs.length = m) (hkm : k ≤ m) :
    ∃ W', (Builtin.copy_ #[22, 22] 3 #[.slice (some ⟨g, 0, none⟩) m d, .slice A k c]).run Try.prog w = .ok (.int .i64 (k : Int)) W' ∧ Rx W' g (ys ++ zs.drop k) ∧ ∀ D w0, D ≤ g → Below D w0 w → Below D w0 W' := by
  subst hk
  subst hm
  have hmin : Nat.min ys.length zs.length = ys.length := Nat.min_eq_left hkm
  by_cases h0 : ys = []
  · subst h0
    refine ⟨w, ?_, by simpa using hg, fun _ _ _ h => h⟩
    exact run_copy_none (P := Try.prog) w 22 22 3 3 (some ⟨g, 0, none⟩) A zs.length d 0 c Try.underlying22 size3 hmin
  · obtain ⟨ad, rfl, hc⟩ := src_cells hs (by rw [List.length_map]; exact List.length_pos_iff.2 h0)
    have hr := run_copy_row (P := Try.prog) w 22 22 3 3 g 0 zs.length d ad ys.length c _ 3 (ys.map (Value.int .i64)) Try.underlying22 size3 hg (by rw [List.length_map]; exact hmin.symm) hc (by simp; omega) (ints_map_one _)
    rw [List.length_map] at hr
    refine ⟨_, hr, ?_, fun D w0 hD hb => below_setRow hb hD _⟩
    have := setRow_heap w g _ ((zs.map (Value.int .i64)).toArray.toList.take 0 ++ ys.map (Value.int .i64) ++ (zs.map (Value.int .i64)).toArray.toList.drop (0 + ys.length)).toArray 3 _ hg
    unfold Rx
    rw [this]
    simp

theorem set_at {l : List Int} {p m : Nat} (hp : p ≤ l.length) (n : Int) : (l.take p ++ List.replicate (m + 1) 0).set p n = l.take p ++ n :: List.replicate m 0 := by
  have hl : (l.take p).length = p := by rw [List.length_take]; omega
  rw [List.set_append_right _ _ (by omega), hl, Nat.sub_self]
  rfl

theorem splice_with {l : List Int} {p : Nat} (hp : p ≤ l.length) (n : Int) : splice ((l.take p ++ n :: List.replicate (l.length - p) 0).map (Value.int .i64)) (p + 1) ((l.drop p).map (Value.int .i64)) = (l.take p ++ n :: l.drop p).map (Value.int .i64) := by
  have hlt : (l.take p).length = p := by rw [List.length_take]; omega
  have e1 : (l.take p ++ n :: List.replicate (l.length - p) 0).take (p + 1) = l.take p ++ [n] := by
    rw [List.take_append, hlt, Nat.add_sub_cancel_left, List.take_of_length_le (by omega)]
    rfl
  have e2 : ((l.take p ++ n :: List.replicate (l.length - p) 0).map (Value.int .i64)).drop (p + 1 + ((l.drop p).map (Value.int .i64)).length) = [] := List.drop_of_length_le (by simp; omega)
  unfold splice
  rw [← List.map_take, e1, e2, List.append_nil, ← List.map_append, List.append_assoc]
  rfl
theorem wrap_in {x : Int} (h0 : 0 ≤ x) (h1 : x ≤ 9223372036854775807) : IntKind.i64.wrap x = x := by
  rw [IntKind.wrap_i64]; omega

set_option maxHeartbeats 1000000 in
theorem with_any (A : Option Addr) (c : Nat) (l : List Int) (p : Nat) (n : Int) (w : World) (hl : l.length ≤ 1000) (hp : p ≤ l.length) (hc : l.length ≤ c) (hs : Sl w w.heap.size .i64 A l) :
    Calls Try.prog 22 #[.slice A l.length c, .int .i64 (p : Int), .int .i64 n] w (RowPost w (l.take p ++ n :: l.drop p)) := by
  have hmk := make_run (l.length + 1) (by omega) ((l.length : Int) + 1) (by omega)
  have BN : Below w.heap.size w (w.alloc (.cells (madeCells #[.int .i64 0] (l.length + 1)) 3)) := (Below.refl _ _).alloc (Nat.le_refl _) _
  have R0 := rx_zeros w (l.length + 1)
  obtain ⟨A1, hh1, hh2, hs1⟩ := head_run hs c p p rfl hp hc
  have hz : (w.alloc (.cells (madeCells #[.int .i64 0] (l.length + 1)) 3)).heap.size = w.heap.size + 1 := by simp
  obtain ⟨V1, hcp, R1, HB⟩ := copy_run (c := c) (d := l.length + 1) (hs1.below BN) (by rw [List.length_take]; omega : (l.take p).length = p) R0 (List.length_replicate ..) (by omega)
  have B1 := HB w.heap.size w (Nat.le_refl _) BN
  rw [List.drop_replicate] at R1
  have hlen : (l.take p ++ List.replicate (l.length + 1 - p) (0 : Int)).length = l.length + 1 := by rw [List.length_append, List.length_take, List.length_replicate]; omega
  have hcell := R1.cell (j := p) (by omega)
  have hfree := R1.free p
  have R2 := R1.set p n
  rw [show l.length + 1 - p = (l.length - p) + 1 by omega, set_at hp n] at R2
  have B2 := B1.setCell (p := ⟨w.heap.size, p, none⟩) (Nat.le_refl _) (.int .i64 n)
  obtain ⟨ho1, ho2⟩ := own_tail w.heap.size (l.length + 1) (p + 1) ((p : Int) + 1) (by omega) (by omega)
  obtain ⟨A2, ht1, ht2, hs2⟩ := tail_run (hs.below B2) c p p rfl hp hc
  have S2 := Lib.hid (src_cells hs2)
  generalize hcs : (l.drop p).map (Value.int .i64) = cs at S2
  have HCS := Lib.hid hcs
  have hcl : cs.length = l.length - p := by rw [← hcs, List.length_map, List.length_drop]
  have HO : Hid (∀ v ∈ cs, v.oneCell' = true) := Lib.hid (by rw [← hcs]; exact ints_map_one _)
  have HR2 := Lib.hid R2
  have HB2 := Lib.hid B2
  have HC := Lib.hid hcl
  have hmin : Hid (l.length - p = Nat.min (l.length - p) (l.length + 1 - (p + 1))) := Lib.hid (Nat.min_eq_left (by omega)).symm
  have hpl : (p : Int) < (l.length : Int) + 1 := by omega
  have hw : IntKind.i64.wrap ((p : Int) + 1) = (p : Int) + 1 := wrap_in (by omega) (by omega)
  have hdp : Hid (0 < l.length - p → (if l.length + 1 = p + 1 then (some ⟨w.heap.size, 0, none⟩ : Option Addr) else some ⟨w.heap.size, p + 1, none⟩) = some ⟨w.heap.size, p + 1, none⟩) := Lib.hid (fun h => if_neg (by omega))
  generalize (if l.length + 1 = p + 1 then (some ⟨w.heap.size, 0, none⟩ : Option Addr) else some ⟨w.heap.size, p + 1, none⟩) = A3 at ho1 ho2 hdp
  have HF : Hid (∀ (w4 : World), w4.heap[w.heap.size]? = some (.cells (splice ((l.take p ++ n :: List.replicate (l.length - p) 0).map (Value.int .i64)) (p + 1) cs).toArray 3 (0, 0)) → Rx w4 w.heap.size (l.take p ++ n :: l.drop p)) := Lib.hid (fun w4 h => by
    unfold Rx
    rw [h, ← hcs, splice_with hp])
  have hln : (l.take p ++ n :: l.drop p).length = l.length + 1 := by rw [List.length_append, List.length_cons, List.length_take, List.length_drop]; omega
  have HL := Lib.hid hln
  have hcur : Hid (p + 1 + cs.length ≤ ((l.take p ++ n :: List.replicate (l.length - p) 0).map (Value.int .i64)).length) := Lib.hid (by simp; omega)
  clear HB R0 R1 R2 hs1 hs2 B1 B2 hs hcl hln hlen hcs BN
  go_enter Try.func22, Try.ntmps22
  go_wp2_with fail
  generalize V1.setCell ⟨w.heap.size, p, none⟩ (.int .i64 n) = V2 at *
  clear hcell hfree hcp hmk hh1 hh2
  go_region_law (refine step_copy_splice rfl (.tmp 24) (.tmp 27) 22 22 rfl 3 Try.underlying22 size3 A3 A2 (l.length + 1 - (p + 1)) (l.length + 1 - (p + 1)) (l.length - p) (c - p) (by simp [Act.eval, Act.put]) (by simp [Act.eval, Act.put]) w.heap.size (p + 1) _ 3 HR2.out cs (HC.out.trans hmin.out) (fun hpos => ⟨hdp.out (by rw [← HC.out]; exact hpos), S2.out hpos⟩) hcur.out HO.out w.heap.size w (HB2.out).drew (Nat.le_refl _) ?_; intro w4 hg4 hb4)
  all_goals (go_wp2; go_ret; exact ⟨some ⟨w.heap.size, 0, none⟩, l.length + 1, by rw [HL.out]; rfl, by rw [HL.out]; exact Nat.le_refl _, (HF.out _ hg4.out).fr (Nat.le_refl _), hb4⟩)

theorem splice_without {l : List Int} {p : Nat} (hp : p + 1 ≤ l.length) : splice ((l.take p ++ List.replicate (l.length - 1 - p) 0).map (Value.int .i64)) p ((l.drop (p + 1)).map (Value.int .i64)) = (l.take p ++ l.drop (p + 1)).map (Value.int .i64) := by
  have hlt : (l.take p).length = p := by rw [List.length_take]; omega
  have e1 : (l.take p ++ List.replicate (l.length - 1 - p) 0).take p = l.take p := by
    rw [List.take_append, hlt, Nat.sub_self, List.take_of_length_le (by omega), List.take_zero, List.append_nil]
  have e2 : ((l.take p ++ List.replicate (l.length - 1 - p) 0).map (Value.int .i64)).drop (p + ((l.drop (p + 1)).map (Value.int .i64)).length) = [] := List.drop_of_length_le (by simp; omega)
  unfold splice
  rw [← List.map_take, e1, e2, List.append_nil, ← List.map_append]

set_option maxHeartbeats 1000000 in
theorem without_any (A : Option Addr) (c : Nat) (l : List Int) (p : Nat) (w : World) (hl : l.length ≤ 1000) (hp : p + 1 ≤ l.length) (hc : l.length ≤ c) (hs : Sl w w.heap.size .i64 A l) :
    Calls Try.prog 25 #[.slice A l.length c, .int .i64 (p : Int)] w (RowPost w (l.take p ++ l.drop (p + 1))) := by
  have hmk := make_run (l.length - 1) (by omega) ((l.length : Int) - 1) (by omega)
  have BN : Below w.heap.size w (w.alloc (.cells (madeCells #[.int .i64 0] (l.length - 1)) 3)) := (Below.refl _ _).alloc (Nat.le_refl _) _
  have R0 := rx_zeros w (l.length - 1)
  obtain ⟨A1, hh1, hh2, hs1⟩ := head_run hs c p p rfl (by omega) hc
  have hz : (w.alloc (.cells (madeCells #[.int .i64 0] (l.length - 1)) 3)).heap.size = w.heap.size + 1 := by simp
  obtain ⟨V1, hcp, R1, HB⟩ := copy_run (c := c) (d := l.length - 1) (hs1.below BN) (by rw [List.length_take]; omega : (l.take p).length = p) R0 (List.length_replicate ..) (by omega)
  have B1 := HB w.heap.size w (Nat.le_refl _) BN
  rw [List.drop_replicate] at R1
  obtain ⟨ho1, ho2⟩ := own_tail w.heap.size (l.length - 1) p (p : Int) rfl (by omega)
  obtain ⟨A2, ht1, ht2, hs2⟩ := tail_run (hs.below B1) c (p + 1) ((p : Int) + 1) (by omega) hp hc
  have S2 := Lib.hid (src_cells hs2)
  generalize hcs : (l.drop (p + 1)).map (Value.int .i64) = cs at S2
  have hcl : cs.length = l.length - (p + 1) := by rw [← hcs, List.length_map, List.length_drop]
  have HO : Hid (∀ v ∈ cs, v.oneCell' = true) := Lib.hid (by rw [← hcs]; exact ints_map_one _)
  have HR1 := Lib.hid R1
  have HB1 := Lib.hid B1
  have HC := Lib.hid hcl
  have hmin : Hid (l.length - (p + 1) = Nat.min (l.length - (p + 1)) (l.length - 1 - p)) := Lib.hid (Nat.min_eq_left (by omega)).symm
  have hpl : (p : Int) + 1 ≤ (l.length : Int) := by omega
  have hw : IntKind.i64.wrap ((p : Int) + 1) = (p : Int) + 1 := wrap_in (by omega) (by omega)
  have hdp : Hid (0 < l.length - (p + 1) → (if l.length - 1 = p then (some ⟨w.heap.size, 0, none⟩ : Option Addr) else some ⟨w.heap.size, p, none⟩) = some ⟨w.heap.size, p, none⟩) := Lib.hid (fun h => if_neg (by omega))
  generalize (if l.length - 1 = p then (some ⟨w.heap.size, 0, none⟩ : Option Addr) else some ⟨w.heap.size, p, none⟩) = A3 at ho1 ho2 hdp
  have HF : Hid (∀ (w4 : World), w4.heap[w.heap.size]? = some (.cells (splice ((l.take p ++ List.replicate (l.length - 1 - p) 0).map (Value.int .i64)) p cs).toArray 3 (0, 0)) → Rx w4 w.heap.size (l.take p ++ l.drop (p + 1))) := Lib.hid (fun w4 h => by
    unfold Rx
    rw [h, ← hcs, splice_without hp])
  have hln : (l.take p ++ l.drop (p + 1)).length = l.length - 1 := by rw [List.length_append, List.length_take, List.length_drop]; omega
  have HL := Lib.hid hln
  have hcur : Hid (p + cs.length ≤ ((l.take p ++ List.replicate (l.length - 1 - p) 0).map (Value.int .i64)).length) := Lib.hid (by simp; omega)
  clear HB R0 R1 hs1 hs2 B1 hs hcl hln hcs BN
  go_enter Try.func25, Try.ntmps25
  go_wp2_with fail
  clear hcp hmk hh1 hh2
  go_region_law (refine step_copy_splice rfl (.tmp 17) (.tmp 21) 22 22 rfl 3 Try.underlying22 size3 A3 A2 (l.length - 1 - p) (l.length - 1 - p) (l.length - (p + 1)) (c - (p + 1)) (by simp [Act.eval, Act.put]) (by simp [Act.eval, Act.put]) w.heap.size p _ 3 HR1.out cs (HC.out.trans hmin.out) (fun hpos => ⟨hdp.out (by rw [← HC.out]; exact hpos), S2.out hpos⟩) hcur.out HO.out w.heap.size w (HB1.out).drew (Nat.le_refl _) ?_; intro w4 hg4 hb4)
  all_goals (go_wp2; go_ret; exact ⟨some ⟨w.heap.size, 0, none⟩, l.length - 1, by rw [HL.out]; rfl, by rw [HL.out]; exact Nat.le_refl _, (HF.out _ hg4.out).fr (Nat.le_refl _), hb4⟩)

end Go.Proofs.Ytpelopfbdfnmeaa
