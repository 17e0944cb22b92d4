/-
  The walk of the document's Get: it answers what 'gt' says. Conditions: the bytes are bytes.
-/
import Derived.Test.YteajbcngimccmaaDoorApp
namespace Go.Proofs.YteajbcngimccmaaDoor
open Go.RowKit

set_option maxHeartbeats 400000 in
theorem rget_any (A : Option Addr) (c : Nat) (xs : List Int) (w : World) (B : Nat) (hl : xs.length ≤ 4611686018427387904) (hs : Sl w B .u8 A xs) (hx : ∀ x ∈ xs, 0 ≤ x ∧ x ≤ 255) :
    Calls Tryd.prog 35 #[.slice A xs.length c] w (GetPost w xs) := by
  go_enter Tryd.func35, Tryd.ntmps35
  go_wp2
  go_loop [5, 6] (fun t s => GetRel xs t s) (fun _ s => 8 - (intOf s).toNat)
  case atStart => exact ⟨0, 0, rfl, rfl, by omega, by omega, by omega, by simp, rfl⟩
  case round =>
    obtain ⟨n, k, rfl, rfl, hk7, hkl, hn0, hnp, hgt⟩ := hrel
    have hn1 : n < 562949953421312 := Int.lt_of_lt_of_le hnp (pow7 k hk7)
    have HP := Lib.hid hnp
    have HG := Lib.hid hgt
    clear hnp hgt
    by_cases hlt : k < xs.length
    · obtain ⟨b, off, rfl, hb, hcell⟩ := hs.at_ hlt
      have hbd := hx (xs.getD k 0) (by simp [List.getD, hlt])
      obtain ⟨c, hc⟩ : ∃ c, xs.getD k 0 = c := ⟨_, rfl⟩
      rw [hc] at hcell hbd
      have HC := Lib.hid hc
      obtain ⟨c0, c1⟩ := hbd
      clear hc
      by_cases h : c < 128
      · have hc2 : decide (128 ≤ c) = false := by simp; omega
        have hc3 : (c == 128) = false := by rw [beq_eq_false_iff_ne]; omega
        by_cases hk0 : k = 0
        · have e0 : ((k : Int) == 0) = true := by simp [hk0]
          have e7 : ((k : Int) == 7) = false := by rw [beq_eq_false_iff_ne]; omega
          clear hk0
          go_wp2
          go_ret3
          exact ⟨got_end HG.out hlt HC.out h, rfl⟩
        · have e0 : ((k : Int) == 0) = false := by rw [beq_eq_false_iff_ne]; omega
          by_cases h7 : k = 7
          · subst h7
            go_wp2
            go_ret3
            exact ⟨got_end HG.out hlt HC.out h, rfl⟩
          · have e7 : ((k : Int) == 7) = false := by rw [beq_eq_false_iff_ne]; omega
            go_wp2
            go_ret3
            exact ⟨got_end HG.out hlt HC.out h, rfl⟩
      · have hc2 : 128 ≤ c := by omega
        by_cases h7 : k = 7
        · subst h7
          go_wp2
          go_ret3
          exact ⟨got_bad HG.out hlt HC.out (by omega) (.inr rfl), rfl⟩
        · by_cases hz : k = 0 ∧ c = 128
          · obtain ⟨hk0, rfl⟩ := hz
            have e0 : ((k : Int) == 0) = true := by simp [hk0]
            have HK := Lib.hid hk0
            clear hk0
            go_wp2
            go_ret3
            exact ⟨got_bad HG.out hlt HC.out (by omega) (.inl ⟨HK.out, rfl⟩), rfl⟩
          · have hbad : ¬ ((k = 0 ∧ c = 128) ∨ k = 7) := fun q => q.elim hz h7
            have HB := Lib.hid hbad
            clear hbad
            have e7 : ((k : Int) == 7) = false := by rw [beq_eq_false_iff_ne]; omega
            by_cases hk0 : k = 0
            · have e0 : ((k : Int) == 0) = true := by simp [hk0]
              have hc3 : (c == 128) = false := by rw [beq_eq_false_iff_ne]; exact fun q => hz ⟨hk0, q⟩
              clear hz hk0
              go_wp2
              go_round
              case rel => exact ⟨_, k + 1, rfl, by go_num, by omega, by omega, by omega, pow_on HP.out c1, got_on HG.out hlt HC.out (by omega) HB.out⟩
              case measure => simp [intOf]; omega
            · have e0 : ((k : Int) == 0) = false := by rw [beq_eq_false_iff_ne]; omega
              clear hz
              go_wp2
              go_round
              case rel => exact ⟨_, k + 1, rfl, by go_num, by omega, by omega, by omega, pow_on HP.out c1, got_on HG.out hlt HC.out (by omega) HB.out⟩
              case measure => simp [intOf]; omega
    · have HE : Hid (k = xs.length) := by show k = xs.length; omega
      have he : ¬ k < xs.length := hlt
      go_wp2
      go_ret3
      exact ⟨got_more HG.out HE.out, rfl⟩

end Go.Proofs.YteajbcngimccmaaDoor
