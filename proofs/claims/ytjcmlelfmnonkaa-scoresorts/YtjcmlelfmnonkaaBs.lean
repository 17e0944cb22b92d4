/-
  sort.insertionSort_func in this seat's words, and the walk of sort.stable_func at this translation: a row of at most 60 numbers is put in order, and those that are just as great stay as they stood. Conditions: at most 60.
-/
import Derived.Test.YtjcmlelfmnonkaaMe
import Derived.Shelf.GgSortMore.Stable
namespace Go.Proofs.Ytjcmlelfmnonkaa
open Go.Shelf Go.RowKit Go.Sort Go.Proofs.Ytjcmlelfmnonkaa.Fl
set_option linter.unusedVariables false
set_option maxRecDepth 100000

theorem lt_swo : SWO ltk := by
  refine ⟨fun x => ?_, fun x y z h1 h2 => ?_, fun x y z h1 h2 => ?_⟩
  · unfold ltk; simp
  · unfold ltk at *
    rw [decide_eq_true_eq] at *
    omega
  · unfold ltk at *
    rw [decide_eq_false_iff_not] at *
    omega
theorem swp_same {d : Array Nat} {a b j : Nat} (ha : a ≤ j) (hb : j + 1 < b) (hs : b ≤ d.size) (h : ltk d[j + 1]! d[j]! = true) : St.Same rk (fn d) (fn (swp d (j + 1) j)) a b := by
  have r : St.Rot (fn d) (fn (swp d (j + 1) j)) j (j + 1) (j + 2) := by
    refine ⟨fun i hi => ?_, fun i hi => ?_, fun i hi => ?_⟩
    · rw [fn_swp (by omega) (by omega), if_neg (by omega), if_neg (by omega)]
    · have : i = 0 := by omega
      subst this
      rw [fn_swp (by omega) (by omega), if_pos (by omega)]
    · have : i = 0 := by omega
      subst this
      rw [fn_swp (by omega) (by omega), if_neg (by omega), if_pos (by omega)]
      rfl
  refine (r.same (by omega) (by omega) fun x y x1 x2 y1 y2 => ?_).wide ha (by omega) (by omega)
  have e1 : x = j := by omega
  have e2 : y = j + 1 := by omega
  subst e1; subst e2
  exact of_decide_eq_true h
theorem inner_same {a b : Nat} : ∀ (j : Nat) (d : Array Nat), j < b → b ≤ d.size → St.Same rk (fn d) (fn (insInner ltk a j d)) a b ∧ (insInner ltk a j d).size = d.size
  | 0, d, hj, hs => ⟨St.Same.refl _ _ _, rfl⟩
  | j + 1, d, hj, hs => by
    unfold insInner
    by_cases h : (decide (j + 1 > a) && ltk d[j + 1]! d[j]!) = true
    · rw [if_pos h]
      rw [Bool.and_eq_true, decide_eq_true_eq] at h
      have h1 := swp_same (a := a) (b := b) (j := j) (by omega) hj hs h.2
      have h2 := inner_same (a := a) (b := b) j (swp d (j + 1) j) (by omega) (by rw [size_swp]; exact hs)
      exact ⟨h1.trans h2.1, by rw [h2.2, size_swp]⟩
    · rw [if_neg h]
      exact ⟨St.Same.refl _ _ _, rfl⟩
theorem outer_same {a b : Nat} : ∀ (k i : Nat) (d : Array Nat), b - i ≤ k → b ≤ d.size → St.Same rk (fn d) (fn (insOuter ltk a b i d)) a b ∧ (insOuter ltk a b i d).size = d.size := by
  intro k
  induction k with
  | zero =>
    intro i d hk hs
    rw [insOuter_stop _ _ _ _ _ (by omega)]
    exact ⟨St.Same.refl _ _ _, rfl⟩
  | succ k ih =>
    intro i d hk hs
    by_cases h : i < b
    · rw [insOuter_go _ _ _ _ _ h]
      obtain ⟨h1, h2⟩ := inner_same (a := a) (b := b) i d h hs
      obtain ⟨h3, h4⟩ := ih (i + 1) (insInner ltk a i d) (by omega) (by rw [h2]; exact hs)
      exact ⟨h1.trans h3, by rw [h4, h2]⟩
    · rw [insOuter_stop _ _ _ _ _ h]
      exact ⟨St.Same.refl _ _ _, rfl⟩
theorem ins_mg {a b : Nat} {d : Array Nat} (hab : a ≤ b) (hs : b ≤ d.size) : Mg d a b (Sort.insertionSort ltk d a b) ∧ (Sort.insertionSort ltk d a b).size = d.size := by
  have h1 := outer_same (a := a) (b := b) b (a + 1) d (by omega) hs
  have h2 := (insertionSort_holds lt_swo d a b hab hs).2
  refine ⟨⟨h1.1, fun i j hi hij hj => ?_⟩, h1.2⟩
  rcases Nat.eq_or_lt_of_le hij with e | e
  · subst e; exact Nat.le_refl _
  · exact Nat.le_of_not_lt (of_decide_eq_false (h2 i j hi e hj))
theorem ins_any (lb sb : Array Value) (blk off n : Nat) (d : Array Nat) (hs : d.size = n) (a b : Nat) (h1 : a ≤ b) (h2 : b ≤ n) (hn : n < 1152921504606846976) (W : World) (R : Rdy lb sb blk off n W) (hH : Holds en W blk off d) :
    Hid (Calls Try.prog 55 #[dat lb sb, .int .i64 (a : Int), .int .i64 (b : Int)] W (SPost W blk off n (Mg d a b))) := by
  refine Lib.hid ?_
  subst hs
  have L := ({ Try.sl8 with } : LaysGt.n29 Try.prog Try.sl8_ren).elder
  have h := Any.insertionSort_func_w L en ltk 33 lb 50 sb blk off a b d W e33 R.less R.swap hH R.blt h1 h2 (by omega)
  change Calls Try.prog 55 _ _ _ at h
  refine h.mono ?_
  rintro e w' ⟨rfl, m, os, rfl⟩
  have hm := ins_mg h1 h2
  exact ⟨rfl, _, hm.2, hm.1, m, os, rfl⟩

/-- In order block by block, from a on. -/
def Bk (f : Nat → Nat) (a b z : Nat) : Prop := ∀ i j, a ≤ i → i ≤ j → j < b → i / z = j / z → rk (f i) ≤ rk (f j)
theorem bk_whole {f : Nat → Nat} {n z : Nat} (h : Bk f 0 n z) (hz : n ≤ z) : St.So rk f 0 n := fun i j hi hij hj => h i j hi hij hj (by rw [Nat.div_eq_of_lt (by omega), Nat.div_eq_of_lt (by omega)])
theorem bk_ins20 {d d2 : Array Nat} {t e : Nat} (h : Bk (fn d) 0 (20 * t) 20) (he : e ≤ 20 * t + 20) (ht : 20 * t ≤ e) (m : Mg d (20 * t) e d2) : Bk (fn d2) 0 e 20 := fun i j hi hij hj hd => by
  rcases Nat.lt_or_ge j (20 * t) with c | c
  · rw [m.1.1 i (by omega), m.1.1 j (by omega)]
    exact h i j hi hij c hd
  · exact m.2 i j (by omega) hij hj
theorem run_20 {f : Nat → Nat} {n a b : Nat} (h : Bk f 0 n 20) (hb : b ≤ n) (hd : a = 0 ∧ b ≤ 20 ∨ a = 20 ∧ b ≤ 40) : St.So rk f a b := fun i j hi hij hj => h i j (by omega) hij (by omega) (by omega)
theorem run_40 {f : Nat → Nat} {n : Nat} (h : Bk f 0 n 20) (hn : n ≤ 60) : St.So rk f 40 n := fun i j hi hij hj => h i j (by omega) hij (by omega) (by omega)

set_option maxHeartbeats 1600000 in
theorem stable_any (lb sb : Array Value) (blk off n : Nat) (hn : n ≤ 60) (d : Array Nat) (hs : d.size = n) (W : World) (R : Rdy lb sb blk off n W) (hH : Holds en W blk off d) :
    Hid (Calls Try.prog 40 #[dat lb sb, .int .i64 (n : Int)] W (SPost W blk off n (Mg d 0 n))) := by
  refine Lib.hid ?_
  have RV := Lib.hid (R.box (bx lb sb))
  have HV := Lib.hid (holds_box R.blt hH (bx lb sb))
  have hbl := R.blt
  have SV := Lib.hid (SW.start HV.out)
  have hn6 : n < 1152921504606846976 := by omega
  clear hH R
  unfold dat
  go_enter Try.func40, Try.ntmps40
  go_wp2
  go_loopw [5, 6] (fun u v wr => ∃ (t : Nat) (dk : Array Nat), u = .int .i64 ((20 * t : Nat) : Int) ∧ v = .int .i64 ((20 * t + 20 : Nat) : Int) ∧ 20 * t ≤ n ∧ dk.size = n ∧ Hid (SW en (W.alloc (bx lb sb)) blk off dk wr) ∧ Hid (St.Same rk (fn d) (fn dk) 0 n) ∧ Hid (Bk (fn dk) 0 (20 * t) 20)) (fun u _ _ => 100 - (intOf u).toNat)
  case atStart => exact ⟨0, d, rfl, rfl, by omega, hs, SV, Lib.hid (St.Same.refl _ _ _), Lib.hid (fun i j hi hij hj => by omega)⟩
  case round =>
    obtain ⟨t, dk, rfl, rfl, ht, hsk, HS, HM, HB⟩ := hrel
    obtain ⟨c0, c1⟩ := box_cell hbl HS.out
    by_cases hle : 20 * t + 20 ≤ n
    · have HC := ins_any lb sb blk off n dk hsk (20 * t) (20 * t + 20) (by omega) hle hn6 wr (RV.out.on HS.out hsk) (HS.out.holds RV.out.blt HV.out (by rw [hsk, hs]))
      unfold dat at HC
      have hle' : ((20 * t + 20 : Nat) : Int) ≤ (n : Int) := by omega
      obtain ⟨p, hp⟩ : ∃ p : Nat, p = 20 * t := ⟨_, rfl⟩
      obtain ⟨q, hq⟩ : ∃ q : Nat, q = 20 * t + 20 := ⟨_, rfl⟩
      rw [← hq, ← hp] at HC
      rw [← hq] at hle'
      rw [← hq, ← hp]
      have hq6 : q ≤ 60 := by omega
      have HP := Lib.hid hp
      have HQ := Lib.hid hq
      clear hp hq
      go_wp2_with (go_at_call 55; (with_reducible refine HC.out.mono ?_); rintro e w2 ⟨rfl, d2, s2, m2, z2⟩)
      go_roundw
      case rel =>
        go_light
        have hp := HP.out
        have hq := HQ.out
        subst hp
        subst hq
        exact ⟨t + 1, d2, by first | rfl | (congr 1; omega), by first | rfl | (congr 1; omega), by omega, s2, Lib.hid (sw_then RV.out.blt HS.out z2 (by rw [s2, hsk])), Lib.hid (HM.out.trans (m2.1.wide (by omega) (by omega) hle)), Lib.hid (bk_ins20 HB.out (by omega) (by omega) m2)⟩
      case measure => go_light; have hp := HP.out; have hq := HQ.out; simp [intOf]; omega
    · have hgt : (n : Int) < ((20 * t + 20 : Nat) : Int) := by omega
      have HC := ins_any lb sb blk off n dk hsk (20 * t) n ht (Nat.le_refl _) hn6 wr (RV.out.on HS.out hsk) (HS.out.holds RV.out.blt HV.out (by rw [hsk, hs]))
      unfold dat at HC
      obtain ⟨p, hp⟩ : ∃ p : Nat, p = 20 * t := ⟨_, rfl⟩
      obtain ⟨q, hq⟩ : ∃ q : Nat, q = 20 * t + 20 := ⟨_, rfl⟩
      rw [← hp] at HC
      rw [← hq] at hgt
      rw [← hq, ← hp]
      have HP := Lib.hid hp
      clear hp hq
      go_wp2_with (go_at_call 55; (with_reducible refine HC.out.mono ?_); rintro e w2 ⟨rfl, d2, s2, m2, z2⟩)
      have hp := HP.out
      have HS2 := Lib.hid (sw_then RV.out.blt HS.out z2 (by rw [s2, hsk]))
      have HM2 : Hid (St.Same rk (fn d) (fn d2) 0 n) := Lib.hid (HM.out.trans (m2.1.wide (by omega) (by omega) (Nat.le_refl _)))
      have HB2 : Hid (Bk (fn d2) 0 n 20) := Lib.hid (bk_ins20 HB.out (by omega) ht (by rw [hp] at m2; exact m2))
      clear HC hgt HS HM HB c0 c1 m2 z2 hle
      by_cases g1 : n ≤ 20
      · have g1' : (n : Int) ≤ 20 := by omega
        refine wp_loop_rounds 1 ?_
        rw [rounds_succ]
        go_wp2
        go_end0
        exact ⟨rfl, d2, s2, ⟨HM2.out, bk_whole HB2.out g1⟩, sw_base hbl HS2.out⟩
      by_cases g2 : n < 40
      · have g1' : (20 : Int) < (n : Int) := by omega
        have g2' : (n : Int) < 40 := by omega
        obtain ⟨f0, f1⟩ := box_cell hbl HS2.out
        have HC : Hid (Calls Try.prog 56 #[dat lb sb, .int .i64 0, .int .i64 20, .int .i64 (n : Int)] w2 (SPost w2 blk off n (Mg d2 0 n))) :=
          merge_any lb sb blk off n hn6 n 0 20 n d2 w2 (by omega) (by omega) (by omega) (Nat.le_refl _) s2 (run_20 HB2.out (by omega) (by omega)) (run_20 HB2.out (Nat.le_refl _) (by omega)) (RV.out.on HS2.out s2) (HS2.out.holds RV.out.blt HV.out (by rw [s2, hs]))
        unfold dat at HC
        refine wp_loop_rounds 2 ?_
        rw [rounds_succ]
        go_wp2
        refine wp_loop_rounds 1 ?_
        rw [rounds_succ]
        go_wp2_with (go_at_call 56; (with_reducible refine HC.out.mono ?_); rintro e w3 ⟨rfl, d3, s3, m3, z3⟩)
        rw [rounds_succ]
        go_wp2
        go_end0
        exact ⟨rfl, d3, s3, ⟨HM2.out.trans m3.1, m3.2⟩, sw_base hbl (sw_then RV.out.blt HS2.out z3 (by rw [s3, s2]))⟩
      have g1' : (20 : Int) < (n : Int) := by omega
      have g2' : (40 : Int) ≤ (n : Int) := by omega
      have g3' : (n : Int) ≤ 60 := by omega
      obtain ⟨f0, f1⟩ := box_cell hbl HS2.out
      have HC : Hid (Calls Try.prog 56 #[dat lb sb, .int .i64 0, .int .i64 20, .int .i64 40] w2 (SPost w2 blk off n (Mg d2 0 40))) :=
        merge_any lb sb blk off n hn6 n 0 20 40 d2 w2 (by omega) (by omega) (by omega) (by omega) s2 (run_20 HB2.out (by omega) (by omega)) (run_20 HB2.out (by omega) (by omega)) (RV.out.on HS2.out s2) (HS2.out.holds RV.out.blt HV.out (by rw [s2, hs]))
      unfold dat at HC
      by_cases g3 : n = 40
      · subst g3
        refine wp_loop_rounds 2 ?_
        rw [rounds_succ]
        go_wp2
        refine wp_loop_rounds 2 ?_
        rw [rounds_succ]
        go_wp2_with (go_at_call 56; (with_reducible refine HC.out.mono ?_); rintro e w3 ⟨rfl, d3, s3, m3, z3⟩)
        rw [rounds_succ]
        go_wp2
        rw [rounds_succ]
        go_wp2
        go_end0
        exact ⟨rfl, d3, s3, ⟨HM2.out.trans m3.1, m3.2⟩, sw_base hbl (sw_then RV.out.blt HS2.out z3 (by rw [s3, s2]))⟩
      · have g4 : 40 < n := by omega
        have g4' : (40 : Int) < (n : Int) := by omega
        refine wp_loop_rounds 3 ?_
        rw [rounds_succ]
        go_wp2
        refine wp_loop_rounds 2 ?_
        rw [rounds_succ]
        go_wp2_with (go_at_call 56; (with_reducible refine HC.out.mono ?_); rintro e w3 ⟨rfl, d3, s3, m3, z3⟩)
        have HS3 := Lib.hid (sw_then RV.out.blt HS2.out z3 (by rw [s3, s2]))
        have HM3 : Hid (St.Same rk (fn d) (fn d3) 0 n) := Lib.hid (HM2.out.trans (m3.1.wide (by omega) (by omega) (by omega)))
        have o1 : St.So rk (fn d3) 0 40 := m3.2
        have o2 : St.So rk (fn d3) 40 n := (run_40 HB2.out hn).same_out m3.1 (Or.inr (Nat.le_refl _))
        obtain ⟨h0, h1⟩ := box_cell hbl HS3.out
        have HC2 : Hid (Calls Try.prog 56 #[dat lb sb, .int .i64 0, .int .i64 40, .int .i64 (n : Int)] w3 (SPost w3 blk off n (Mg d3 0 n))) :=
          merge_any lb sb blk off n hn6 n 0 40 n d3 w3 (by omega) (by omega) (by omega) (Nat.le_refl _) s3 o1 o2 (RV.out.on HS3.out s3) (HS3.out.holds RV.out.blt HV.out (by rw [s3, hs]))
        unfold dat at HC2
        clear HC HS2 f0 f1 m3 z3
        rw [rounds_succ]
        go_wp2
        rw [rounds_succ]
        go_wp2
        refine wp_loop_rounds 1 ?_
        rw [rounds_succ]
        go_wp2_with (go_at_call 56; (with_reducible refine HC2.out.mono ?_); rintro e w4 ⟨rfl, d4, s4, m4, z4⟩)
        rw [rounds_succ]
        go_wp2
        go_end0
        exact ⟨rfl, d4, s4, ⟨HM3.out.trans m4.1, m4.2⟩, sw_base hbl (sw_then RV.out.blt HS3.out z4 (by rw [s4, s3]))⟩
end Go.Proofs.Ytjcmlelfmnonkaa
