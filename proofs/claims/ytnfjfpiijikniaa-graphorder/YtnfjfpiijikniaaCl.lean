/-
  The walks of Closure and Reaches. Conditions: at most 1000 edges.
-/
import Derived.Test.YtnfjfpiijikniaaSo
namespace Go.Proofs.Ytnfjfpiijikniaa.Gp
open Go.RowKit
set_option linter.unusedVariables false

/-- What a thing reaches, rising. -/
noncomputable def clo (E : Nat → Nat → Prop) (m f : Nat) : List Nat := (List.range m).filter (rb E f)
theorem mem_clo {E : Nat → Nat → Prop} {m f x : Nat} : x ∈ clo E m f ↔ x < m ∧ Rt E f x := by simp [clo, rb_iff]
theorem clo_rises (E : Nat → Nat → Prop) (m f : Nat) : (clo E m f).Pairwise (· < ·) := (range_lt m).filter _
theorem clo_len (E : Nat → Nat → Prop) (m f : Nat) : (clo E m f).length ≤ m := by
  have := List.length_filter_le (rb E f) (List.range m)
  simpa [clo] using this
/-- .. and nothing, if it is none. -/
noncomputable def cz (n : Int) (l : List (Int × Int)) (f : Int) : List Nat := if 0 ≤ f ∧ f < (am n : Int) then clo (Ed (am n) l) (am n) f.toNat else []
theorem cz_len (n : Int) (l : List (Int × Int)) (f : Int) : (cz n l f).length ≤ 100 := by
  unfold cz
  split
  · have := clo_len (Ed (am n) l) (am n) f.toNat; have := am_le n; omega
  · simp
/-- The call gave a list of integers; nothing that was there has turned. -/
def IntsPost (w : World) (xs : List Int) (e : Ending) (w' : World) : Prop := ∃ A c, e = .returned (.slice A xs.length c) ∧ Sl w' w'.heap.size A xs ∧ Below w.heap.size w w'

theorem own_sl {w : World} {base : Nat} {g c : Nat} {l : List Nat} (h : w.ownsRow base 3 1 (.slice (some ⟨g, 0, none⟩) l.length c) l.length (iv l)) : Sl w w.heap.size (some ⟨g, 0, none⟩) (zs l) :=
  .inr ⟨g, 0, rfl, (h.lt g rfl).2, fun j x hx => by
    rw [Nat.zero_add]
    refine own_cell h ?_
    rw [iv_zs, List.getElem?_map, hx]
    rfl⟩

set_option maxHeartbeats 1000000 in
theorem Closure_any (n : Int) (A : Option Addr) (c : Nat) (l : List (Int × Int)) (f : Int) (hl : l.length ≤ 1000) (w : World) (hs : Es w w.heap.size A l) : Calls Try.prog 15 #[.int .i64 n, .slice A l.length c, .int .i64 f] w (IntsPost w (zs (cz n l f))) := by
  have HR := Lib.hid (read_any n A c l hl w hs)
  have hle := am_le n
  by_cases hf : 0 ≤ f ∧ f < (am n : Int)
  · obtain ⟨a, rfl⟩ := Int.eq_ofNat_of_zero_le hf.1
    have hE : Hid (cz n l (a : Int) = clo (Ed (am n) l) (am n) a) := by
      show _ = _
      unfold cz
      rw [if_pos hf]
      rfl
    generalize cz n l (a : Int) = cs at *
    obtain rfl := hE.out
    clear hE
    generalize am n = m at *
    have ha : a < m := by omega
    have HH := fun W => Lib.hid (has_any (some ⟨0, 0, none⟩) m m (a : Int) true (by rw [decide_eq_true hf]) W)
    obtain ⟨j0, hj, hy0, hy1, hy2⟩ := info_parts info4
    have HI := Lib.hid hf
    clear hf HH
    go_enter Try.func15, Try.ntmps15
    go_wp2_with fail
    refine HR.out.mono ?_
    rintro e w1 ⟨b, R, rfl, hG, hb, hRb, B1⟩
    clear HR
    have HH := Lib.hid (has_any (some ⟨b, 0, none⟩) m m (a : Int) true (by rw [decide_eq_true HI.out]) w1)
    go_wp2_with fail
    refine HH.out.mono ?_
    rintro e w2 ⟨rfl, rfl⟩
    clear HH
    have hwk : Hid (∀ w3 : World, w3.ownsRow w2.heap.size 4 1 (.slice (some ⟨w2.heap.size, 0, none⟩) m m) m (madeCells (Value.bool false).cells (m * 1)).toList → w2.grownBy w3 none → Calls Try.prog 26 #[.slice (some ⟨b, 0, none⟩) m m, .int .i64 (a : Int), .slice (some ⟨w2.heap.size, 0, none⟩) m m] w3 (WkPost w3 m (ge l) w2.heap.size (fun _ => false) a)) := fun w3 ho hg =>
      walk_any b R m (ge l) (by omega) w2.heap.size (fun _ => false) a ha rfl (fun x y h => by cases h) w3 (hG.same (hg.block b hG.lt (by simp)) fun i hi => hg.block (R i) (hG.rlt hi) (by simp)) (tb_made ho rfl) (fun i hi => by have := hG.rlt hi; omega)
    go_wp2_with (at_make; refine wpList_make_full _ rfl _ _ 38 rfl w2.heap.size 4 j0 (.bool false) 1 (by kernel_rfl) hj hy0 hy1 _ _ _ _ m rfl rfl rfl rfl (by rw [hy2]; omega) (by unfold maxLen; omega) (Nat.le_refl _) ?_; intro w3 hown3 hgrow3; have HW := hwk.out w3 hown3 hgrow3)
    refine HW.mono ?_
    rintro e w4 ⟨q, g, c4, rfl, hL, hown4, hS4, hO4⟩
    have B4 : Below w.heap.size w w4 := (B1.grown hgrow3 B1.size (by simp)).trans (hO4.below (by rintro r rfl; exact B1.size) (Nat.le_trans B1.size hgrow3.size))
    have hg4 := hown4.lt g rfl
    have hql : q.length ≤ m := by
      have := hL.nd.length_le_of_subset (l₂ := List.range m) (fun x hx => List.mem_range.2 (hL.inn x hx).2.1)
      simpa using this
    have hm : ∀ x, x ∈ q ↔ x ∈ clo (Ed m l) m a := fun x => by
      rw [mem_clo, ← eg_ge]
      refine ⟨fun h => ⟨(hL.inn x h).2.1, (hL.inn x h).2.2⟩, fun h => ?_⟩
      rcases hL.all x h.2 with h | h
      · exact h
      · cases h
    have HSo := Lib.hid (sort_any _ g c4 q (clo (Ed m l) m a) (by omega) hL.nd (clo_rises _ _ _) hm w4 hown4)
    have hq5 : Hid (q.length = (zs (clo (Ed m l) m a)).length) := by
      show _ = _
      rw [zs_len]
      exact len_same hL.nd (rises_nodup (clo_rises _ _ _)) hm
    have hb4 : w.heap.size ≤ g := Nat.le_trans (Nat.le_trans B1.size hgrow3.size) hg4.1
    clear hown3 hgrow3 HW hL hown4 hS4 hO4 hm hwk hG
    go_wp2_with fail
    refine HSo.out.mono ?_
    rintro e w5 ⟨rfl, hown5, hO5⟩
    have B5 := B4.trans (hO5.below (by rintro r rfl; exact hb4) B4.size)
    have hS5 := own_sl hown5
    go_wp2
    go_ret
    exact ⟨some ⟨g, 0, none⟩, c4, by rw [hq5.out]; rfl, hS5, B5⟩
  · have hE : Hid (cz n l f = []) := if_neg hf
    generalize cz n l f = cs at *
    obtain rfl := hE.out
    clear hE
    generalize am n = m at *
    have HI := Lib.hid hf
    clear hf
    go_enter Try.func15, Try.ntmps15
    go_wp2_with fail
    refine HR.out.mono ?_
    rintro e w1 ⟨b, R, rfl, hG, hb, hRb, B1⟩
    clear HR
    have HH := Lib.hid (has_any (some ⟨b, 0, none⟩) m m f false (by rw [decide_eq_false HI.out]) w1)
    go_wp2_with fail
    refine HH.out.mono ?_
    rintro e w2 ⟨rfl, rfl⟩
    go_wp2
    go_ret
    exact ⟨none, 0, rfl, .inl rfl, B1⟩

/-- Whether one reaches the other one. -/
noncomputable def rz (n : Int) (l : List (Int × Int)) (f t : Int) : Bool := decide (t ∈ zs (cz n l f))

theorem Reaches_any (n : Int) (A : Option Addr) (c : Nat) (l : List (Int × Int)) (f t : Int) (hl : l.length ≤ 1000) (w : World) (hs : Es w w.heap.size A l) : Calls Try.prog 17 #[.int .i64 n, .slice A l.length c, .int .i64 f, .int .i64 t] w (BoolPost w (rz n l f t)) := by
  have HC := Lib.hid (Closure_any n A c l f hl w hs)
  have hlen := cz_len n l f
  have hr : Hid (rz n l f t = decide (t ∈ zs (cz n l f))) := rfl
  rw [← zs_len] at hlen
  generalize zs (cz n l f) = cs at *
  generalize rz n l f t = r at *
  go_enter Try.func17, Try.ntmps17
  go_wp2_with fail
  refine HC.out.mono ?_
  rintro e w1 ⟨A1, c1, rfl, hS, B1⟩
  have HD := Lib.hid (contains_any A1 c1 cs t r hr.out (by omega) w1 hS)
  go_wp2_with fail
  refine HD.out.mono ?_
  rintro e w2 ⟨rfl, rfl⟩
  go_wp2
  go_ret
  exact ⟨rfl, B1⟩

end Go.Proofs.Ytnfjfpiijikniaa.Gp
