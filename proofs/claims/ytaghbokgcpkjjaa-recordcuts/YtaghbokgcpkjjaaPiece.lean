/-
  The walk of the reader's method 'piece': a copy of the next bytes, or the first error kept. Conditions: the reader is the call's own, at most 1024 bytes are asked for.
-/
import Derived.Test.YtaghbokgcpkjjaaNumber
import Derived.Laws.CopyOwn
import Derived.Deep.RegionLaw
namespace Go.Proofs.Ytaghbokgcpkjjaa
open Go.RowKit

def PiecePost (w : World) (R : Nat) (A : Option Addr) (n c : Nat) (ys : List Int) (p' e' : Int) (e : Ending) (w' : World) : Prop :=
  ∃ A' c', e = .returned (.slice A' ys.length c') ∧ Sl w' w'.heap.size .u8 A' ys ∧ ys.length ≤ c' ∧ (∀ a, A' = some a → R < a.block ∧ ∃ cs, w'.heap[a.block]? = some (.cells cs 5 (0, 0))) ∧ Rd w' R A n c p' e' ∧ Below R w w'

theorem piece_late (R : Nat) (A : Option Addr) (n c : Nat) (p e size : Int) (w : World) (h : Rd w R A n c p e) (he : e ≠ 0) :
    Calls Try.prog 25 #[.pointer (some ⟨R, 0, none⟩), .int .i64 size] w (PiecePost w R A n c [] p e) := by
  have HR := Lib.hid h
  obtain ⟨c0, c1, c2, f1, f2, hlt⟩ := h
  have hb : (e == 0) = false := by rw [beq_eq_false_iff_ne]; exact he
  clear he
  go_enter Try.func25, Try.ntmps25
  go_wp2_with fail
  go_quiet (fail)
  go_wp2
  go_ret
  exact ⟨none, 0, rfl, Sl.nil, Nat.le_refl _, (fun a h => by cases h), HR.out, below_drewN (Below.refl _ _) _⟩

theorem piece_more (R : Nat) (A : Option Addr) (n c : Nat) (p m : Nat) (w : World) (h : Rd w R A n c p 0) (hp : p ≤ n) (hm : m ≤ 4611686018427387904) (hl : n < p + m) :
    Calls Try.prog 25 #[.pointer (some ⟨R, 0, none⟩), .int .i64 (m : Int)] w (PiecePost w R A n c [] p 3) := by
  have HR := Lib.hid h
  obtain ⟨c0, c1, c2, f1, f2, hlt⟩ := h
  have hw : ((n : Int) - (p : Int)) < (m : Int) := by omega
  have hw0 : 0 ≤ ((n : Int) - (p : Int)) := by omega
  go_enter Try.func25, Try.ntmps25
  go_wp2_with fail
  go_quiet (fail)
  go_wp2
  go_ret
  exact ⟨none, 0, rfl, Sl.nil, Nat.le_refl _, (fun a h => by cases h), rd_err HR.out _ _, rd_below _ _⟩

theorem made_zeros (k : Nat) : (madeCells (Value.int .u8 0).cells (k * 1)).toList = List.replicate k (Value.int .u8 0) := by
  rw [Nat.mul_one]
  show (madeCells #[.int .u8 0] k).toList = _
  rw [toList_madeCells_one]

theorem row_made {w : World} {g m : Nat} {zs : List Value} (h : w.ownsRow g 5 1 (.slice (some ⟨g, 0, none⟩) m m) m zs) : w.heap[g]? = some (.cells zs.toArray 5 (0, 0)) := by
  rcases h.2 with ⟨hv, _⟩ | ⟨g', cap, cur, hv, _, hh, _, _, hcs, ht⟩
  · cases hv
  · simp only [Value.slice.injEq, Option.some.injEq, Addr.mk.injEq, and_true, true_and] at hv
    obtain ⟨rfl, rfl⟩ := hv
    rw [hh, ← ht, List.take_of_length_le (by simp [hcs])]

theorem splice_whole {α : Type} (Z X : List α) (h : X.length = Z.length) : splice Z 0 X = X := by simp [splice, h]

theorem sl_of_block {w : World} {g : Nat} {ys : List Int} (h : w.heap[g]? = some (.cells (ys.map (Value.int .u8)).toArray 5 (0, 0))) : Sl w w.heap.size .u8 (some ⟨g, 0, none⟩) ys := by
  refine .inr ⟨g, 0, rfl, lt_of_block h, fun j x hx => ?_⟩
  have : w.cell? ⟨g, j, none⟩ = (ys.map (Value.int .u8))[j]? := by simp [World.cell?, h]
  rw [Nat.zero_add, this]
  simp [hx]

theorem rd_on {w w' : World} {R : Nat} {A : Option Addr} {n c : Nat} {p e : Int} (h : Rd w R A n c p e) (hb : Below w.heap.size w w') : Rd w' R A n c p e := by
  obtain ⟨c0, c1, c2, f1, f2, hlt⟩ := h
  exact ⟨(hb.cell (p := ⟨R, 0, none⟩) hlt).trans c0, (hb.cell (p := ⟨R, 1, none⟩) hlt).trans c1, (hb.cell (p := ⟨R, 2, none⟩) hlt).trans c2, (hb.frozen (p := ⟨R, 1, none⟩) hlt).trans f1, (hb.frozen (p := ⟨R, 2, none⟩) hlt).trans f2, Nat.lt_of_lt_of_le hlt hb.size⟩

theorem size5 : (Try.prog.info? 5).map (·.size) = some 1 := by kernel_rfl

/-- What is copied stands behind an address, if there is any. -/
theorem piece_src {w : World} {B : Nat} {A : Option Addr} {ys : List Int} {m : Nat} (h : Sl w B .u8 A ys) (hp : 0 < ((ys.take m).map (Value.int .u8)).length) :
    ∃ ad, A = some ad ∧ ∀ j v, ((ys.take m).map (Value.int .u8))[j]? = some v → w.drew.cell? (ad.add j) = some v := by
  rcases h with rfl | ⟨b, off, rfl, _, hc⟩
  · simp at hp
  · refine ⟨_, rfl, fun j v hv => ?_⟩
    rw [List.getElem?_map] at hv
    obtain ⟨x, hx, rfl⟩ := Option.map_eq_some_iff.1 hv
    rw [List.getElem?_take] at hx
    split at hx
    · rw [Addr.add_lit]; exact hc j x hx
    · cases hx

theorem wrap_in {x : Int} (h0 : 0 ≤ x) (h1 : x ≤ 9223372036854775807) : IntKind.i64.wrap x = x := by
  rw [IntKind.wrap_i64]; omega

theorem piece_fin {w w1 w4 : World} {R : Nat} {A : Option Addr} {n c p m : Nat} {ys : List Int} {cs : List Value} (h : Rd w R A n c p 0) (h1 : Below w.heap.size w w1) (h4 : Below w.heap.size w1 w4)
    (hg : w4.heap[w.heap.size]? = some (.cells (splice (List.replicate m (Value.int .u8 0)) 0 cs).toArray 5 (0, 0))) (hcs : cs = ys.map (Value.int .u8)) (hl : ys.length = m) (hw : IntKind.i64.wrap ((p : Int) + (m : Int)) = (p : Int) + (m : Int)) :
    PiecePost w R A n c ys ((p + m : Nat) : Int) 0 (.returned (.slice (some ⟨w.heap.size, 0, none⟩) m m)) (w4.setCell ⟨R, 1, none⟩ (.int .i64 (IntKind.i64.wrap ((p : Int) + (m : Int))))) := by
  rw [hw]
  clear hw
  subst hl
  have hR := h.2.2.2.2.2
  rw [splice_whole _ _ (by rw [hcs]; simp), hcs] at hg
  have hR4 := rd_on h (h1.trans h4)
  have e : ((p + ys.length : Nat) : Int) = (p : Int) + (ys.length : Int) := by omega
  rw [e]
  have hb : (w4.setCell ⟨R, 1, none⟩ (.int .i64 ((p : Int) + (ys.length : Int)))).heap[w.heap.size]? = w4.heap[w.heap.size]? := Below.heap_setCell _ _ _ _ (by show w.heap.size ≠ R; omega)
  refine ⟨_, _, rfl, ?_, Nat.le_refl _, (fun a h => by cases h; exact ⟨hR, _, hb.trans hg⟩), rd_at hR4 0 _, ((h1.trans h4).mono (B' := R) (by omega)).setCell (Nat.le_refl _) _⟩
  exact sl_of_block (hb.trans hg)

set_option maxHeartbeats 2000000 in
theorem piece_ok (R : Nat) (A : Option Addr) (c : Nat) (p m : Nat) (xs : List Int) (w : World) (h : Rd w R A xs.length c p 0) (hx : xs.length ≤ 4611686018427387904) (hc : xs.length ≤ c) (hs : Sl w R .u8 A xs)
    (hm : m ≤ 1024) (hl : p + m ≤ xs.length) :
    Calls Try.prog 25 #[.pointer (some ⟨R, 0, none⟩), .int .i64 (m : Int)] w (PiecePost w R A xs.length c ((xs.drop p).take m) ((p + m : Nat) : Int) 0) := by
  obtain ⟨i0, hi, hz0, hz1, hz2⟩ := info_parts info5
  have HR := Lib.hid h
  obtain ⟨c0, c1, c2, f1, f2, hlt⟩ := h
  obtain ⟨A', hr1, hr2, hsl⟩ := tail_run hs c p p rfl (by omega) hc
  have hw : decide (((xs.length : Int) - (p : Int)) < (m : Int)) = false := by simp; omega
  have hw0 : 0 ≤ ((xs.length : Int) - (p : Int)) := by omega
  go_enter Try.func25, Try.ntmps25
  go_wp2_with fail
  go_quiet (fail)
  go_wp2_with (at_make; refine wpList_make_full _ rfl _ _ 22 rfl w.heap.size 5 i0 (.int .u8 0) 1 Try.underlying22 hi hz0 hz1 _ _ _ _ m rfl rfl rfl rfl (by rw [hz2]; omega) (by unfold maxLen; omega) (Nat.le_refl _) ?_; intro w1 hown1 hgrow1)
  have hs0 : (w.drewN nq).heap.size = w.heap.size := rfl
  rw [hs0, made_zeros] at hown1
  have hblk := row_made hown1
  have B1 : Below w.heap.size w w1 := (below_drewN (Below.refl w.heap.size w) nq).grown hgrow1 (Nat.le_refl _) (by simp)
  obtain ⟨k0, k1, k2, g1, g2, _⟩ : Rd w1 R A xs.length c p 0 := rd_on HR.out B1
  have hsl1 : Sl w1 R .u8 A' (xs.drop p) := hsl.below (B1.mono (by omega))
  have S := Lib.hid (piece_src (m := m) hsl1)
  have hlen : ((xs.drop p).take m).length = m := by rw [List.length_take, List.length_drop]; omega
  have HL := Lib.hid hlen
  obtain ⟨cs, hcs⟩ : ∃ cs, cs = ((xs.drop p).take m).map (Value.int .u8) := ⟨_, rfl⟩
  have hcl : cs.length = m := by rw [hcs, List.length_map]; exact hlen
  rw [← hcs] at S
  have hone : ∀ v ∈ cs, v.oneCell' = true := by rw [hcs]; exact ints_one _ _
  have HC := Lib.hid hcs
  have HW : Hid (IntKind.i64.wrap ((p : Int) + (m : Int)) = (p : Int) + (m : Int)) := wrap_in (by omega) (by omega)
  have HCL := Lib.hid hcl
  have HO := Lib.hid hone
  have HB := Lib.hid hblk
  have HB1 := Lib.hid B1
  have hmin : Hid (m = Nat.min (xs.length - p) m) := (Nat.min_eq_right (by omega)).symm
  clear hcs hcl hone hblk hown1 hgrow1 hsl hsl1 hs hlen B1 c0 c1 c2 f1 f2 hw hw0
  go_region_law (refine step_copy_splice rfl (.tmp 39) (.tmp 48) 22 22 rfl 5 Try.underlying22 size5 (some ⟨w.heap.size, 0, none⟩) A' m m (xs.length - p) (c - p) (by simp [Act.eval, Act.put]) (by simp [Act.eval, Act.put]) w.heap.size 0 (List.replicate m (.int .u8 0)) 5 HB.out cs (HCL.out.trans hmin.out) (fun hp => ⟨rfl, S.out hp⟩) (by rw [HCL.out, List.length_replicate]; omega) HO.out w.heap.size w1 (Below.refl _ _).drew (Nat.le_refl _) ?_; intro w4 hg4 hb4; rw [HCL.out]; have l0 := (hb4.cell (p := ⟨R, 0, none⟩) hlt).trans k0; have l1 := (hb4.cell (p := ⟨R, 1, none⟩) hlt).trans k1; have l2 := (hb4.cell (p := ⟨R, 2, none⟩) hlt).trans k2; have m1 := (hb4.frozen (p := ⟨R, 1, none⟩) hlt).trans g1)
  all_goals (go_wp2; go_ret; exact piece_fin HR.out HB1.out hb4 hg4.out HC.out HL.out HW.out)

end Go.Proofs.Ytaghbokgcpkjjaa
