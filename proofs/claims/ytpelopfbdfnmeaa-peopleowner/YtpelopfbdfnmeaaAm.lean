/-
  The walk of areMembers: whether a list may be all that are in a channel. Conditions: at most 1000 numbers.
-/
import Derived.Test.YtpelopfbdfnmeaaSmall
namespace Go.Proofs.Ytpelopfbdfnmeaa
open Go.RowKit

set_option maxHeartbeats 1000000 in
theorem am_any (A : Option Addr) (c B : Nat) (l : List Int) (w : World) (hl : l.length ≤ 1000) (hs : Sl w B .i64 A l) :
    Calls Try.prog 27 #[.slice A l.length c] w fun e w' => e = .returned (.bool (am l)) ∧ w = w' := by
  have HF : ∀ W, Hid (Calls Try.prog 26 #[.int .i64 (l.length : Int), .int .i64 16] W fun e w' => e = .returned (.bool (fit (l.length : Int) 16)) ∧ W = w') := fun W => fits_any _ 16 W
  have HU : ∀ x W, Hid (Calls Try.prog 20 #[.int .i64 x] W fun e w' => e = .returned (.bool (usr x)) ∧ W = w') := fun x W => isuser_any x W
  have H0 : Hid (fit (l.length : Int) 16 = false → am l = false) := am_len
  have HX : Hid (∀ k, k < l.length → usr (l.getD k 0) = false → am l = false) := fun k => am_usr
  have HY : Hid (∀ k, k + 1 < l.length → l.getD (k + 1) 0 ≤ l.getD k 0 → am l = false) := fun k => am_next
  have HZ : Hid (fit (l.length : Int) 16 = true → (∀ i, i < l.length → usr (l.getD i 0) = true) → (∀ i, i + 1 < l.length → l.getD i 0 < l.getD (i + 1) 0) → am l = true) := am_yes
  generalize am l = r at *
  cases hf : fit (l.length : Int) 16
  · have H1 := Lib.hid (H0.out hf)
    rw [hf] at HF
    clear hf H0 HX HY HZ
    go_enter Try.func27, Try.ntmps27
    go_wp2_with (refine (HF _).out.mono ?_; rintro e w' ⟨rfl, rfl⟩)
    go_ret
    exact ⟨by rw [H1.out]; rfl, rfl⟩
  · have H1 := Lib.hid (HZ.out hf)
    rw [hf] at HF
    clear hf H0 HZ
    go_enter Try.func27, Try.ntmps27
    go_wp2_with (refine (HF _).out.mono ?_; rintro e w' ⟨rfl, rfl⟩)
    clear HF
    go_loopw [11] (fun i wr => ∃ k : Nat, k ≤ l.length ∧ i = .int .i64 (k : Int) ∧ wr = w ∧ Hid ((∀ i, i < k → usr (l.getD i 0) = true) ∧ (∀ i, i + 1 < k → l.getD i 0 < l.getD (i + 1) 0))) (fun i _ => l.length - (intOf i).toNat)
    case atStart => exact ⟨0, by omega, rfl, rfl, fun i hi => by omega, fun i hi => by omega⟩
    case round =>
      obtain ⟨k, hk, rfl, rfl, HA⟩ := hrel
      by_cases hlt : k < l.length
      · obtain ⟨b, off, rfl, hb, hcell⟩ := hs.at_ hlt
        have HX2 := Lib.hid (HX.out k hlt)
        have HUk := fun W => HU (l.getD k 0) W
        cases hu : usr (l.getD k 0)
        · rw [hu] at HUk
          have HX3 := Lib.hid (HX2.out hu)
          clear HX HX2 HY HU hu H1
          generalize l.getD k 0 = x at *
          go_wp2_with (refine (HUk _).out.mono ?_; rintro e w' ⟨rfl, rfl⟩)
          go_ret
          exact ⟨by rw [HX3.out]; rfl, rfl⟩
        · rw [hu] at HUk
          by_cases hk0 : k = 0
          · subst hk0
            have HN : Hid ((∀ i, i < 0 + 1 → usr (l.getD i 0) = true) ∧ (∀ i, i + 1 < 0 + 1 → l.getD i 0 < l.getD (i + 1) 0)) := Lib.hid ⟨fun i hi => by
              obtain rfl : i = 0 := by omega
              exact hu, fun i hi => by omega⟩
            clear HX HX2 HY HU hu
            generalize l.getD 0 0 = x at hcell HUk
            rw [Nat.add_zero] at hcell
            go_wp2_with (refine (HUk _).out.mono ?_; rintro e w' ⟨rfl, rfl⟩)
            go_roundw
            case rel => exact ⟨0 + 1, by omega, by go_num, trivial, HN.out⟩
            case measure => simp [intOf]; omega
          · obtain ⟨j, rfl⟩ : ∃ j, k = j + 1 := ⟨k - 1, by omega⟩
            obtain ⟨b', off', e', hb', hcell'⟩ := hs.at_ (j := j) (by omega)
            cases e'
            have hj : (((j + 1 : Nat) : Int) - 1) = (j : Int) := by omega
            have hj0 : (0 : Int) < ((j + 1 : Nat) : Int) := by omega
            have hjl : (j : Int) < (l.length : Int) := by omega
            have HY2 := Lib.hid (HY.out j hlt)
            have HN : Hid (l.getD j 0 < l.getD (j + 1) 0 → (∀ i, i < j + 1 + 1 → usr (l.getD i 0) = true) ∧ (∀ i, i + 1 < j + 1 + 1 → l.getD i 0 < l.getD (i + 1) 0)) := Lib.hid (fun h => ⟨fun i hi => by
              rcases Nat.lt_or_ge i (j + 1) with q | q
              · exact HA.out.1 i q
              · obtain rfl : i = j + 1 := by omega
                exact hu, fun i hi => by
              rcases Nat.lt_or_ge (i + 1) (j + 1) with q | q
              · exact HA.out.2 i q
              · obtain rfl : i = j := by omega
                exact h⟩)
            clear HX HX2 HY HU hu HA H1
            generalize l.getD (j + 1) 0 = x at hcell HUk HY2 HN
            generalize l.getD j 0 = y at hcell' HY2 HN
            by_cases hxy : x ≤ y
            · go_wp2_with (refine (HUk _).out.mono ?_; rintro e w' ⟨rfl, rfl⟩)
              go_ret
              exact ⟨by rw [HY2.out hxy]; rfl, rfl⟩
            · go_wp2_with (refine (HUk _).out.mono ?_; rintro e w' ⟨rfl, rfl⟩)
              go_roundw
              case rel => exact ⟨j + 1 + 1, by omega, by go_num, trivial, HN.out (by omega)⟩
              case measure => simp [intOf]; omega
      · obtain rfl : k = l.length := by omega
        have H2 := Lib.hid (H1.out HA.out.1 HA.out.2)
        clear HX HY HU H1 HA
        go_wp2
        go_ret
        exact ⟨by rw [H2.out]; rfl, rfl⟩
end Go.Proofs.Ytpelopfbdfnmeaa
