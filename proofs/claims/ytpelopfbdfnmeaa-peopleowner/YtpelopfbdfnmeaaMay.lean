/-
  The walks of May and In, the program's and the document's: whether a channel may be, and who is in it. Conditions: at most 1000 members.
-/
import Derived.Test.YtpelopfbdfnmeaaAm
namespace Go.Proofs.Ytpelopfbdfnmeaa
open Go.RowKit
set_option linter.unusedVariables false

theorem below_drewN {B : Nat} {w v : World} (h : Below B w v) (n : Nat) : Below B w (v.drewN n) := ⟨h.os, h.tape, h.output, h.size, h.block⟩
theorem box_below (w : World) (a o : Int) (A : Option Addr) (n c : Nat) : Below w.heap.size w (w.alloc (.cells #[.int .i64 a, .int .i64 o, .slice A n c] 24)) := (Below.refl _ _).alloc (Nat.le_refl _) _
theorem am_rise {l : List Int} (h : am l = true) : rise l := (am_iff.1 h).2.2.2

theorem may_any (a o : Int) (A : Option Addr) (c : Nat) (l : List Int) (w : World) (hl : l.length ≤ 1000) (hs : Sl w w.heap.size .i64 A l) :
    Calls Try.prog 16 #[.agg #[.int .i64 a, .int .i64 o, .slice A l.length c]] w (BoolPost w (mb a o l)) := by
  have BN := box_below w a o A l.length c
  have CB := (cx_new w a o A l.length c).cb
  have HF : ∀ W, Hid (Calls Try.prog 26 #[.int .i64 a, .int .i64 1048576] W fun e w' => e = .returned (.bool (fit a 1048576)) ∧ W = w') := fun W => fits_any a _ W
  have HA : Hid (Calls Try.prog 27 #[.slice A l.length c] (w.alloc (.cells #[.int .i64 a, .int .i64 o, .slice A l.length c] 24)) fun e w' => e = .returned (.bool (am l)) ∧ (w.alloc (.cells #[.int .i64 a, .int .i64 o, .slice A l.length c] 24)) = w') := am_any A c w.heap.size l _ hl (hs.below BN)
  have HH : Hid (am l = true → Calls Try.prog 28 #[.slice A l.length c, .int .i64 o] (w.alloc (.cells #[.int .i64 a, .int .i64 o, .slice A l.length c] 24)) fun e w' => e = .returned (.bool (decide (o ∈ l))) ∧ (w.alloc (.cells #[.int .i64 a, .int .i64 o, .slice A l.length c] 24)) = w') := fun h => has_any A c w.heap.size l o _ hl (am_rise h) (hs.below BN)
  rw [mb_eq]
  generalize fit a 1048576 = f at *
  generalize am l = g at *
  generalize decide (o ∈ l) = h at *
  obtain ⟨p0, p1, p2⟩ := CB
  cases f
  · clear HA HH
    go_enter Try.func16, Try.ntmps16
    go_wp2_with fail
    generalize w.alloc (.cells #[.int .i64 a, .int .i64 o, .slice A l.length c] 24) = W0 at *
    refine (HF _).out.mono ?_
    rintro e w' ⟨rfl, rfl⟩
    go_wp2
    go_ret
    exact ⟨rfl, BN⟩
  · cases g
    · clear HH
      go_enter Try.func16, Try.ntmps16
      go_wp2_with fail
      generalize w.alloc (.cells #[.int .i64 a, .int .i64 o, .slice A l.length c] 24) = W0 at *
      refine (HF _).out.mono ?_
      rintro e w' ⟨rfl, rfl⟩
      go_wp2_with fail
      refine HA.out.mono ?_
      rintro e w' ⟨rfl, rfl⟩
      go_wp2
      go_ret
      exact ⟨rfl, BN⟩
    · have HH2 := Lib.hid (HH.out rfl)
      clear HH
      go_enter Try.func16, Try.ntmps16
      go_wp2_with fail
      generalize w.alloc (.cells #[.int .i64 a, .int .i64 o, .slice A l.length c] 24) = W0 at *
      refine (HF _).out.mono ?_
      rintro e w' ⟨rfl, rfl⟩
      go_wp2_with fail
      refine HA.out.mono ?_
      rintro e w' ⟨rfl, rfl⟩
      go_wp2_with fail
      refine HH2.out.mono ?_
      rintro e w' ⟨rfl, rfl⟩
      go_wp2
      go_ret
      exact ⟨rfl, BN⟩

theorem in_any (a o : Int) (A : Option Addr) (c : Nat) (l : List Int) (n : Int) (w : World) (hl : l.length ≤ 1000) (hs : Sl w w.heap.size .i64 A l) :
    Calls Try.prog 18 #[.agg #[.int .i64 a, .int .i64 o, .slice A l.length c], .int .i64 n] w (BoolPost w (mb a o l && decide (n ∈ l))) := by
  have BN := box_below w a o A l.length c
  have CB := (cx_new w a o A l.length c).cb
  have HM : Hid (Calls Try.prog 16 #[.agg #[.int .i64 a, .int .i64 o, .slice A l.length c]] (w.alloc (.cells #[.int .i64 a, .int .i64 o, .slice A l.length c] 24)) (BoolPost (w.alloc (.cells #[.int .i64 a, .int .i64 o, .slice A l.length c] 24)) (mb a o l))) := may_any a o A c l _ hl (hs.up BN)
  have HH : Hid (mb a o l = true → ∀ W, Below w.heap.size w W → Calls Try.prog 28 #[.slice A l.length c, .int .i64 n] W fun e w' => e = .returned (.bool (decide (n ∈ l))) ∧ W = w') := fun h W hB => has_any A c w.heap.size l n _ hl (mb_iff.1 h).2.2.2.1 (hs.below hB)
  generalize mb a o l = f at *
  generalize decide (n ∈ l) = h at *
  obtain ⟨p0, p1, p2⟩ := id CB
  go_enter Try.func18, Try.ntmps18
  go_wp2_with fail
  clear p0 p1 p2
  generalize hW : w.alloc (.cells #[.int .i64 a, .int .i64 o, .slice A l.length c] 24) = W0 at *
  refine HM.out.mono ?_
  rintro e w1 ⟨rfl, B1⟩
  have BE := BN.trans (B1.mono BN.size)
  cases f
  · go_wp2
    go_ret
    exact ⟨rfl, BE⟩
  · have HH2 := Lib.hid (HH.out rfl w1 BE)
    obtain ⟨p0, p1, p2⟩ := CB.on B1 CB.lt
    clear HH HM
    go_wp2_with fail
    refine HH2.out.mono ?_
    rintro e w2 ⟨rfl, rfl⟩
    go_wp2
    go_ret
    exact ⟨rfl, BE⟩

set_option maxHeartbeats 2000000 in
theorem rmay_any (a o : Int) (A : Option Addr) (c : Nat) (l : List Int) (w : World) (hl : l.length ≤ 1000) (hs : Sl w w.heap.size .i64 A l) :
    Calls Try.prog 17 #[.agg #[.int .i64 a, .int .i64 o, .slice A l.length c]] w (BoolPost w (mb a o l)) := by
  have BN := box_below w a o A l.length c
  have CB := (cx_new w a o A l.length c).cb
  have HU : ∀ x W, Hid (Calls Try.prog 23 #[.int .i64 x] W fun e w' => e = .returned (.bool (usr x)) ∧ W = w') := fun x W => ruser_any x W
  have HH : ∀ W, Hid (Below w.heap.size w W → Calls Try.prog 24 #[.slice A l.length c, .int .i64 o] W fun e w' => e = .returned (.bool (decide (o ∈ l))) ∧ W = w') := fun W hB => rhas_any A c w.heap.size l o _ hl (hs.below hB)
  have H0 : Hid (fit (l.length : Int) 16 = false → am l = false) := am_len
  have HX : Hid (∀ k, k < l.length → usr (l.getD k 0) = false → am l = false) := fun k => am_usr
  have HY : Hid (∀ k, k + 1 < l.length → l.getD (k + 1) 0 ≤ l.getD k 0 → am l = false) := fun k => am_next
  have HZ : Hid (fit (l.length : Int) 16 = true → (∀ i, i < l.length → usr (l.getD i 0) = true) → (∀ i, i + 1 < l.length → l.getD i 0 < l.getD (i + 1) 0) → am l = true) := am_yes
  have HF1 : Hid (a < 1 → fit a 1048576 = false) := fit_low
  have HF2 : Hid (1048576 < a → fit a 1048576 = false) := fit_high
  have HF3 : Hid (1 ≤ a → a ≤ 1048576 → fit a 1048576 = true) := fit_yes
  have HL1 : Hid ((l.length : Int) < 1 → fit (l.length : Int) 16 = false) := fit_low
  have HL2 : Hid ((16 : Int) < (l.length : Int) → fit (l.length : Int) 16 = false) := fit_high
  have HL3 : Hid (1 ≤ (l.length : Int) → (l.length : Int) ≤ 16 → fit (l.length : Int) 16 = true) := fit_yes
  have EQ := mb_eq a o l
  generalize mb a o l = r at *
  generalize am l = g at *
  generalize decide (o ∈ l) = h at *
  generalize fit a 1048576 = fa at *
  generalize fit (l.length : Int) 16 = fl at *
  subst EQ
  obtain ⟨p0, p1, p2⟩ := id CB
  go_enter Try.func17, Try.ntmps17
  by_cases a1 : a < 1
  · obtain rfl := HF1.out a1
    go_wp2
    go_ret
    exact ⟨rfl, BN⟩
  by_cases a2 : 1048576 < a
  · obtain rfl := HF2.out a2
    go_wp2
    go_ret
    exact ⟨rfl, BN⟩
  obtain rfl := HF3.out (by omega) (by omega)
  by_cases a3 : (l.length : Int) < 1
  · obtain rfl := HL1.out a3
    obtain rfl := H0.out rfl
    go_wp2
    go_ret
    exact ⟨rfl, BN⟩
  by_cases a4 : (16 : Int) < (l.length : Int)
  · obtain rfl := HL2.out a4
    obtain rfl := H0.out rfl
    go_wp2
    go_ret
    exact ⟨rfl, BN⟩
  obtain rfl := HL3.out (by omega) (by omega)
  have HZ2 := Lib.hid (HZ.out rfl)
  have S0 := hs.up BN
  clear H0 HZ HF1 HF2 HF3 HL1 HL2 HL3 hs
  go_wp2
  clear p0 p1 p2
  generalize w.alloc (.cells #[.int .i64 a, .int .i64 o, .slice A l.length c] 24) = W0 at *
  go_loopw [3] (fun i wr => ∃ k : Nat, k ≤ l.length ∧ i = .int .i64 (k : Int) ∧ Below W0.heap.size W0 wr ∧ Hid ((∀ i, i < k → usr (l.getD i 0) = true) ∧ (∀ i, i + 1 < k → l.getD i 0 < l.getD (i + 1) 0))) (fun i _ => l.length - (intOf i).toNat)
  case atStart => exact ⟨0, by omega, rfl, Below.refl _ _, fun i hi => by omega, fun i hi => by omega⟩
  case round =>
    obtain ⟨k, hk, rfl, hB, HA⟩ := hrel
    have BE := BN.trans (hB.mono BN.size)
    obtain ⟨p0, p1, p2⟩ := CB.on hB CB.lt
    by_cases hlt : k < l.length
    · obtain ⟨b, off, rfl, hb, hcell⟩ := (S0.below hB).at_ hlt
      have HX2 := Lib.hid (HX.out k hlt)
      have HUk := fun W => HU (l.getD k 0) W
      cases hu : usr (l.getD k 0)
      · rw [hu] at HUk
        obtain rfl := HX2.out hu
        clear HX HX2 HY HU hu HZ2 HH
        generalize l.getD k 0 = x at *
        go_wp2_with (refine (HUk _).out.mono ?_; rintro e w' ⟨rfl, rfl⟩)
        go_quiet (fail)
        go_wp2
        go_ret
        exact ⟨rfl, below_drewN BE _⟩
      · rw [hu] at HUk
        by_cases hk0 : k = 0
        · subst hk0
          have HN : Hid ((∀ i, i < 0 + 1 → usr (l.getD i 0) = true) ∧ (∀ i, i + 1 < 0 + 1 → l.getD i 0 < l.getD (i + 1) 0)) := Lib.hid ⟨fun i hi => by
            obtain rfl : i = 0 := by omega
            exact hu, fun i hi => by omega⟩
          clear HX HX2 HY HU hu HZ2 HH
          generalize l.getD 0 0 = x at hcell HUk
          rw [Nat.add_zero] at hcell
          go_wp2_with (refine (HUk _).out.mono ?_; rintro e w' ⟨rfl, rfl⟩)
          go_quiet (fail)
          go_wp2
          go_roundw
          case rel => exact ⟨0 + 1, by omega, by go_num, below_drewN hB _, HN.out⟩
          case measure => simp [intOf]; omega
        · obtain ⟨j, rfl⟩ : ∃ j, k = j + 1 := ⟨k - 1, by omega⟩
          obtain ⟨b', off', e', hb', hcell'⟩ := (S0.below hB).at_ (j := j) (by omega)
          cases e'
          have hj : (((j + 1 : Nat) : Int) - 1) = (j : Int) := by omega
          have hj0 : (0 : Int) < ((j + 1 : Nat) : Int) := by omega
          have hjl : (j : Int) < (l.length : Int) := by omega
          have hjl2 : ((j + 1 : Nat) : Int) < (l.length : Int) := by omega
          have HY2 := Lib.hid (HY.out j hlt)
          have HN : Hid (l.getD j 0 < l.getD (j + 1) 0 → (∀ i, i < j + 1 + 1 → usr (l.getD i 0) = true) ∧ (∀ i, i + 1 < j + 1 + 1 → l.getD i 0 < l.getD (i + 1) 0)) := Lib.hid (fun h => ⟨fun i hi => by
            rcases Nat.lt_or_ge i (j + 1) with q | q
            · exact HA.out.1 i q
            · obtain rfl : i = j + 1 := by omega
              exact hu, fun i hi => by
            rcases Nat.lt_or_ge (i + 1) (j + 1) with q | q
            · exact HA.out.2 i q
            · obtain rfl : i = j := by omega
              exact h⟩)
          clear HX HX2 HY HU hu HA HZ2 HH
          generalize l.getD (j + 1) 0 = x at hcell HUk HY2 HN
          generalize l.getD j 0 = y at hcell' HY2 HN
          by_cases hxy : x ≤ y
          · obtain rfl := HY2.out hxy
            go_wp2_with (refine (HUk _).out.mono ?_; rintro e w' ⟨rfl, rfl⟩)
            go_quiet (fail)
            go_wp2
            go_ret
            exact ⟨rfl, below_drewN BE _⟩
          · go_wp2_with (refine (HUk _).out.mono ?_; rintro e w' ⟨rfl, rfl⟩)
            go_quiet (fail)
            go_wp2
            go_roundw
            case rel => exact ⟨j + 1 + 1, by omega, by go_num, below_drewN hB _, HN.out (by omega)⟩
            case measure => simp [intOf]; omega
    · obtain rfl : k = l.length := by omega
      obtain rfl := HZ2.out HA.out.1 HA.out.2
      have HH2 := Lib.hid ((HH wr).out BE)
      clear HX HY HU HZ2 HA HH
      go_wp2_with fail
      refine HH2.out.mono ?_
      rintro e w' ⟨rfl, rfl⟩
      go_wp2
      go_ret
      exact ⟨rfl, BE⟩

theorem rin_any (a o : Int) (A : Option Addr) (c : Nat) (l : List Int) (n : Int) (w : World) (hl : l.length ≤ 1000) (hs : Sl w w.heap.size .i64 A l) :
    Calls Try.prog 19 #[.agg #[.int .i64 a, .int .i64 o, .slice A l.length c], .int .i64 n] w (BoolPost w (mb a o l && decide (n ∈ l))) := by
  have BN := box_below w a o A l.length c
  have CB := (cx_new w a o A l.length c).cb
  have HM : Hid (Calls Try.prog 17 #[.agg #[.int .i64 a, .int .i64 o, .slice A l.length c]] (w.alloc (.cells #[.int .i64 a, .int .i64 o, .slice A l.length c] 24)) (BoolPost (w.alloc (.cells #[.int .i64 a, .int .i64 o, .slice A l.length c] 24)) (mb a o l))) := rmay_any a o A c l _ hl (hs.up BN)
  have HH : Hid (∀ W, Below w.heap.size w W → Calls Try.prog 24 #[.slice A l.length c, .int .i64 n] W fun e w' => e = .returned (.bool (decide (n ∈ l))) ∧ W = w') := fun W hB => rhas_any A c w.heap.size l n _ hl (hs.below hB)
  generalize mb a o l = f at *
  generalize decide (n ∈ l) = h at *
  obtain ⟨p0, p1, p2⟩ := id CB
  go_enter Try.func19, Try.ntmps19
  go_wp2_with fail
  clear p0 p1 p2
  generalize hW : w.alloc (.cells #[.int .i64 a, .int .i64 o, .slice A l.length c] 24) = W0 at *
  refine HM.out.mono ?_
  rintro e w1 ⟨rfl, B1⟩
  have BE := BN.trans (B1.mono BN.size)
  have HH2 := Lib.hid (HH.out w1 BE)
  obtain ⟨p0, p1, p2⟩ := CB.on B1 CB.lt
  clear HH HM
  go_wp2_with fail
  refine HH2.out.mono ?_
  rintro e w2 ⟨rfl, rfl⟩
  cases f
  · go_wp2
    go_ret
    exact ⟨rfl, BE⟩
  · go_wp2
    go_ret
    exact ⟨rfl, BE⟩
end Go.Proofs.Ytpelopfbdfnmeaa
