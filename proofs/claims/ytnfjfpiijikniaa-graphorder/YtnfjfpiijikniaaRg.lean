/-
  The walks of the document's own Reaches and Closure. Conditions: at most 1000 edges.
-/
import Derived.Test.YtnfjfpiijikniaaRf
namespace Go.Proofs.Ytnfjfpiijikniaa.Gp
open Go.RowKit
set_option linter.unusedVariables false

theorem mem_zs {x : Nat} {l : List Nat} : ((x : Nat) : Int) ∈ zs l ↔ x ∈ l := by
  unfold zs
  rw [List.mem_map]
  exact ⟨fun ⟨y, hy, e⟩ => by obtain rfl : y = x := (by omega); exact hy, fun h => ⟨x, h, rfl⟩⟩
theorem fr_rz (n : Int) (l : List (Int × Int)) (f : Int) (t : Nat) (ht : t < am n) : fr n l f t = rz n l f (t : Int) := by
  unfold fr rz cz
  rw [Bool.eq_iff_iff]
  by_cases hf : 0 ≤ f ∧ f < (am n : Int)
  · rw [if_pos hf, decide_eq_true hf, Bool.true_and, decide_eq_true_iff, mem_zs, rb_iff, mem_clo]
    exact ⟨fun h => ⟨ht, h⟩, fun h => h.2⟩
  · rw [if_neg hf, decide_eq_false hf, Bool.false_and, decide_eq_true_iff]
    simp [zs]
theorem rz_out {n : Int} {l : List (Int × Int)} {f t : Int} (h : ¬ ((0 ≤ f ∧ f < (am n : Int)) ∧ (0 ≤ t ∧ t < (am n : Int)))) : rz n l f t = false := by
  unfold rz cz
  split
  · rename_i hf
    simp only [decide_eq_false_iff_not, zs, List.mem_map, not_exists, not_and]
    rintro x hx rfl
    have := (mem_clo.1 hx).1
    exact h ⟨hf, by omega, by omega⟩
  · simp [zs]

set_option maxHeartbeats 1000000 in
theorem rReaches_any (n : Int) (A : Option Addr) (c : Nat) (l : List (Int × Int)) (f t : Int) (hl : l.length ≤ 1000) (w : World) (hs : Es w w.heap.size A l) : Calls Try.prog 18 #[.int .i64 n, .slice A l.length c, .int .i64 f, .int .i64 t] w (BoolPost w (rz n l f t)) := by
  have HF := Lib.hid (From_any n A c l f hl w hs)
  have H1 := Lib.hid (fun r h => thing_any n f r h w)
  have H2 := Lib.hid (fun r h => thing_any n t r h w)
  by_cases hf : 0 ≤ f ∧ f < (am n : Int)
  · have K1 := Lib.hid (H1.out true (by rw [decide_eq_true hf]))
    by_cases ht : 0 ≤ t ∧ t < (am n : Int)
    · have K2 := Lib.hid (H2.out true (by rw [decide_eq_true ht]))
      obtain ⟨d, rfl⟩ := Int.eq_ofNat_of_zero_le ht.1
      have hd : d < am n := by omega
      have hR := Lib.hid (fr_rz n l f d hd)
      have hdi : (d : Int) < (am n : Int) := by omega
      have hd0 : (0 : Int) ≤ (d : Int) := by omega
      generalize rz n l f (d : Int) = r at *
      generalize fr n l f = o at *
      generalize am n = m at *
      clear hf ht H1 H2
      go_enter Try.func18, Try.ntmps18
      go_wp2_with fail
      refine K1.out.mono ?_
      rintro e w1 ⟨rfl, rfl⟩
      go_wp2_with fail
      refine K2.out.mono ?_
      rintro e w2 ⟨rfl, rfl⟩
      go_wp2_with fail
      refine HF.out.mono ?_
      rintro e w3 ⟨s, rfl, hS, _, hB⟩
      have c1 := hS.cell hd
      rw [hR.out] at c1
      go_wp2
      go_ret
      exact ⟨rfl, hB⟩
    · have K2 := Lib.hid (H2.out false (by rw [decide_eq_false ht]))
      have hR := Lib.hid (rz_out (n := n) (l := l) (f := f) (t := t) (fun h => ht h.2))
      generalize rz n l f t = r at *
      obtain rfl := hR.out
      clear hf ht H1 H2 hR
      go_enter Try.func18, Try.ntmps18
      go_wp2_with fail
      refine K1.out.mono ?_
      rintro e w1 ⟨rfl, rfl⟩
      go_wp2_with fail
      refine K2.out.mono ?_
      rintro e w2 ⟨rfl, rfl⟩
      go_wp2
      go_ret
      exact ⟨rfl, Below.refl _ _⟩
  · have K1 := Lib.hid (H1.out false (by rw [decide_eq_false hf]))
    obtain ⟨r2, hr2⟩ : ∃ r, r = decide (0 ≤ t ∧ t < (am n : Int)) := ⟨_, rfl⟩
    have K2 := Lib.hid (H2.out r2 hr2)
    have hR := Lib.hid (rz_out (n := n) (l := l) (f := f) (t := t) (fun h => hf h.1))
    generalize rz n l f t = r at *
    obtain rfl := hR.out
    clear hf H1 H2 hR hr2
    go_enter Try.func18, Try.ntmps18
    go_wp2_with fail
    refine K1.out.mono ?_
    rintro e w1 ⟨rfl, rfl⟩
    go_wp2_with fail
    refine K2.out.mono ?_
    rintro e w2 ⟨rfl, rfl⟩
    go_wp2
    go_ret
    exact ⟨rfl, Below.refl _ _⟩

/-- The things of a row of marks, the first k of them. -/
def mkd (o : Nat → Bool) (k : Nat) : List Nat := (List.range k).filter o
theorem mkd_succ (o : Nat → Bool) (k : Nat) : mkd o (k + 1) = mkd o k ++ (if o k = true then [k] else []) := by
  unfold mkd
  rw [List.range_succ, List.filter_append]
  rcases h : o k with _ | _ <;> simp [h]
theorem mkd_len (o : Nat → Bool) (k : Nat) : (mkd o k).length ≤ k := by
  have := List.length_filter_le o (List.range k)
  simpa [mkd] using this
theorem mkd_fr (n : Int) (l : List (Int × Int)) (f : Int) : mkd (fr n l f) (am n) = cz n l f := by
  unfold mkd cz
  by_cases hf : 0 ≤ f ∧ f < (am n : Int)
  · rw [if_pos hf]
    refine List.filter_congr fun x _ => ?_
    unfold fr
    rw [decide_eq_true hf, Bool.true_and]
  · rw [if_neg hf, List.filter_eq_nil_iff]
    intro x _
    unfold fr
    rw [decide_eq_false hf, Bool.false_and]
    simp

set_option maxHeartbeats 2000000 in
theorem rClosure_any (n : Int) (A : Option Addr) (c : Nat) (l : List (Int × Int)) (f : Int) (hl : l.length ≤ 1000) (w : World) (hs : Es w w.heap.size A l) : Calls Try.prog 16 #[.int .i64 n, .slice A l.length c, .int .i64 f] w (IntsPost w (zs (cz n l f))) := by
  obtain ⟨i0, hi, hz0, hz1, hz2⟩ := info_parts info3
  have HF := Lib.hid (From_any n A c l f hl w hs)
  have HM := Lib.hid (mkd_fr n l f)
  have hle := am_le n
  generalize cz n l f = xs at *
  generalize fr n l f = o at *
  generalize am n = m at *
  go_enter Try.func16, Try.ntmps16
  go_wp2_with fail
  refine HF.out.mono ?_
  rintro e w1 ⟨s, rfl, hS, hs0, B1⟩
  clear HF
  go_wp2
  go_loopg [8, 9] m (fun g v t W => ∃ k : Nat, k + g = m ∧ t = .int .i64 (k : Int) ∧ Hid (W.ownsRow w1.heap.size 3 1 v (mkd o k).length (iv (mkd o k))) ∧ Below w1.heap.size w1 W)
  case atStart => exact ⟨0, by omega, rfl, World.ownsRow_nil _ _ _ _, Below.refl _ _⟩
  case round =>
    obtain ⟨k, hk, rfl, hown, hbel⟩ := hrel
    have hml := mkd_len o k
    by_cases hlt : k < m
    · have hki : (k : Int) < (m : Int) := by omega
      have hk0 : (0 : Int) ≤ (k : Int) := by omega
      have S2 : Br wr s o m := Tb.on hS hbel (Tb.lt hS)
      have ck := S2.cell hlt
      have HS := Lib.hid (mkd_succ o k)
      have hsz := hbel.size
      rcases hok : o k with _ | _
      · rw [hok] at ck HS
        have HS2 : Hid (mkd o (k + 1) = mkd o k) := HS.out.trans (by simp)
        clear HS hok
        go_wp2
        go_roundg (m - (k + 1))
        case measure => omega
        case rel => exact ⟨k + 1, by omega, by go_num, by rw [HS2.out]; exact hown.out, hbel⟩
      · rw [hok] at ck HS
        have HS2 : Hid (mkd o (k + 1) = mkd o k ++ [k]) := HS.out.trans (by simp)
        have HN := Lib.hid (heap_alloc_new wr (.cells #[.int .i64 (k : Int)] 3))
        have H7 := Lib.hid (own_same (w' := wr.alloc (.cells #[.int .i64 (k : Int)] 3)) hown.out fun g hg => heap_alloc_old _ _ (hown.out.lt g hg).2)
        have HL := Lib.hid hown.out.lt
        have B2 := hbel.alloc hsz (.cells #[.int .i64 (k : Int)] 3)
        clear HS hok
        go_wp2_with (at_builtin; refine wpList_append_lies _ rfl _ _ 29 rfl w1.heap.size 3 i0 (.int .i64 0) 1 8 Try.underlying29 hi hz0 hz1 hz2 rfl (by decide) u8 (mkd o k).length (iv (mkd o k)) rfl H7.out ⟨wr.heap.size, 0, none⟩ 1 1 [.int .i64 (k : Int)] rfl rfl (World.news_of_block HN.out) (by intro u hu; simp at hu; subst hu; rfl) (by decide) (by unfold maxLen; omega) (by omega) (by simp; omega) (wr.heap.size + 1) (by simp) ?_; intro g' c' w5 hown5 hgrow hat hlt5)
        have B3 := B2.grown hgrow (by simp; omega) (fun r hr => (HL.out r hr).1)
        have H8 : Hid (w5.ownsRow w1.heap.size 3 1 (.slice (some ⟨g', 0, none⟩) ((mkd o k).length + 1) c') (mkd o (k + 1)).length (iv (mkd o (k + 1)))) := by
          show World.ownsRow _ _ _ _ _ _ _
          rw [HS2.out, iv_snoc, List.length_append]; exact hown5
        go_wp2
        go_roundg (m - (k + 1))
        case measure => omega
        case rel => exact ⟨k + 1, by omega, by go_num, H8.out, B3⟩
    · obtain rfl : k = m := by omega
      have HX : Hid (wr.ownsRow w1.heap.size 3 1 u8 xs.length (iv xs)) := by rw [← HM.out]; exact hown.out
      have hB := B1.trans (hbel.mono B1.size)
      have HP : Hid (∃ A c, u8 = .slice A (zs xs).length c ∧ Sl wr wr.heap.size A (zs xs)) := by
        rw [zs_len]
        rcases Nat.eq_zero_or_pos xs.length with h0 | h0
        · obtain rfl := List.length_eq_zero_iff.1 h0
          rcases HX.out.2 with ⟨rfl, _⟩ | ⟨g, cap, cur, rfl, _⟩
          · exact ⟨none, 0, rfl, .inl rfl⟩
          · exact ⟨_, cap, rfl, .inl rfl⟩
        · obtain ⟨g, c7, rfl, _, _⟩ := HX.out.form h0
          exact ⟨_, c7, rfl, own_sl HX.out⟩
      go_wp2
      go_ret
      obtain ⟨A7, c7, h1, h2⟩ := HP.out
      exact ⟨A7, c7, by rw [← h1]; rfl, h2, hB⟩

end Go.Proofs.Ytnfjfpiijikniaa.Gp
