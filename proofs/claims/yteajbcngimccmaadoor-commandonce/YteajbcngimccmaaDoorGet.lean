/-
  The walks of vlq.Get and of the document's Get: both answer what 'gt' says. Conditions: the bytes are bytes, and fewer than 2^62.
-/
import Derived.Test.YteajbcngimccmaaDoorPut
import Derived.WalkMore
namespace Go.Proofs.YteajbcngimccmaaDoor
open Go.RowKit

/-- The three answers of Get. -/
def got (r : Int × Nat × Int) : Ending := .returned (.tuple #[.int .i64 r.1, .int .i64 (r.2.1 : Int), .int .i64 r.2.2])

def GetPost (w : World) (xs : List Int) (e : Ending) (w' : World) : Prop := e = got (gt 0 0 xs) ∧ w = w'

def GetRel (xs : List Int) (t s : Value) : Prop :=
  ∃ (n : Int) (k : Nat), t = .int .i64 n ∧ s = .int .i64 (k : Int) ∧ k ≤ 7 ∧ k ≤ xs.length ∧ 0 ≤ n ∧ n < 128 ^ k ∧ gt 0 0 xs = gt k n (xs.drop k)

theorem pow7 : ∀ k, k ≤ 7 → (128 : Int) ^ k ≤ 562949953421312 := by decide

theorem drop_at {xs : List Int} {k : Nat} (h : k < xs.length) : xs.drop k = xs.getD k 0 :: xs.drop (k + 1) := by
  rw [List.drop_eq_getElem_cons h]; simp [List.getD, h]

theorem got_more {xs : List Int} {k : Nat} {n : Int} (hG : gt 0 0 xs = gt k n (xs.drop k)) (hk : k = xs.length) : Ending.returned (.tuple #[.int .i64 0, .int .i64 0, .int .i64 3]) = got (gt 0 0 xs) := by
  rw [hG, List.drop_of_length_le (by omega), gt_nil]; rfl
theorem got_end {xs : List Int} {k : Nat} {n c : Int} (hG : gt 0 0 xs = gt k n (xs.drop k)) (hk : k < xs.length) (hc : xs.getD k 0 = c) (h : c < 128) :
    Ending.returned (.tuple #[.int .i64 (n * 128 + c), .int .i64 ((k : Int) + 1), .int .i64 0]) = got (gt 0 0 xs) := by
  rw [hG, drop_at hk, hc, gt_end h]; rfl
theorem got_bad {xs : List Int} {k : Nat} {n c : Int} (hG : gt 0 0 xs = gt k n (xs.drop k)) (hk : k < xs.length) (hc : xs.getD k 0 = c) (h : ¬ c < 128) (h' : (k = 0 ∧ c = 128) ∨ k = 7) :
    Ending.returned (.tuple #[.int .i64 0, .int .i64 0, .int .i64 2]) = got (gt 0 0 xs) := by
  rw [hG, drop_at hk, hc, gt_bad h h']; rfl
theorem got_on {xs : List Int} {k : Nat} {n c : Int} (hG : gt 0 0 xs = gt k n (xs.drop k)) (hk : k < xs.length) (hc : xs.getD k 0 = c) (h : ¬ c < 128) (h' : ¬ ((k = 0 ∧ c = 128) ∨ k = 7)) :
    gt 0 0 xs = gt (k + 1) (n * 128 + c - 128) (xs.drop (k + 1)) := by
  rw [hG, drop_at hk, hc, gt_on h h']
theorem pow_on {k : Nat} {n c : Int} (h : n < 128 ^ k) (h0 : c ≤ 255) : n * 128 + c - 128 < 128 ^ (k + 1) := by rw [Int.pow_succ]; omega

set_option maxHeartbeats 400000 in
theorem get_any (A : Option Addr) (c : Nat) (xs : List Int) (w : World) (B : Nat) (hl : xs.length ≤ 4611686018427387904) (hs : Sl w B .u8 A xs) (hx : ∀ x ∈ xs, 0 ≤ x ∧ x ≤ 255) :
    Calls Tryd.prog 38 #[.slice A xs.length c] w (GetPost w xs) := by
  go_enter Tryd.func38, Tryd.ntmps38
  go_wp2
  go_step3
  go_wp2
  go_step3
  go_wp2
  go_loop [5, 6] (fun t s => GetRel xs t s) (fun _ s => 8 - (intOf s).toNat)
  case atStart => exact ⟨0, 0, rfl, rfl, by omega, by omega, by omega, by simp, rfl⟩
  case round =>
    obtain ⟨n, k, rfl, rfl, hk7, hkl, hn0, hnp, hgt⟩ := hrel
    have hn1 : n < 562949953421312 := Int.lt_of_lt_of_le hnp (pow7 k hk7)
    have HP := Lib.hid hnp
    have HG := Lib.hid hgt
    clear hnp hgt
    by_cases hlt : k < xs.length
    · obtain ⟨b, off, rfl, hb, hcell⟩ := hs.at_ hlt
      have hne : ((k : Int) == (xs.length : Int)) = false := by simp; omega
      have hbd := hx (xs.getD k 0) (by simp [List.getD, hlt])
      obtain ⟨c, hc⟩ : ∃ c, xs.getD k 0 = c := ⟨_, rfl⟩
      rw [hc] at hcell hbd
      have HC := Lib.hid hc
      obtain ⟨c0, c1⟩ := hbd
      clear hc
      by_cases h : c < 128
      · go_wp2
        go_ret3
        exact ⟨got_end HG.out hlt HC.out h, rfl⟩
      · have hc2 : 128 ≤ c := by omega
        by_cases h7 : k = 7
        · subst h7
          go_wp2
          go_ret3
          exact ⟨got_bad HG.out hlt HC.out (by omega) (.inr rfl), rfl⟩
        · by_cases hz : k = 0 ∧ c = 128
          · obtain ⟨rfl, rfl⟩ := hz
            rw [Nat.add_zero] at hcell
            go_wp2
            go_ret3
            exact ⟨got_bad HG.out hlt HC.out (by omega) (.inl ⟨rfl, rfl⟩), rfl⟩
          · have hbad : ¬ ((k = 0 ∧ c = 128) ∨ k = 7) := fun q => q.elim hz h7
            have HB := Lib.hid hbad
            clear hbad
            have e8 : ((k : Int) + 1 == 8) = false := by simp; omega
            by_cases hk0 : k = 0
            · subst hk0
              rw [Nat.add_zero] at hcell
              have hc3 : (c == 128) = false := by simp at hz ⊢; exact hz
              clear hz
              go_wp2
              go_round
              case rel => exact ⟨_, 1, rfl, rfl, by omega, by omega, by omega, pow_on HP.out c1, got_on HG.out hlt HC.out (by omega) HB.out⟩
              case measure => simp [intOf]
            · have e1 : ((k : Int) + 1 == 1) = false := by simp; omega
              clear hz
              go_wp2
              go_round
              case rel => exact ⟨_, k + 1, rfl, by go_num, by omega, by omega, by omega, pow_on HP.out c1, got_on HG.out hlt HC.out (by omega) HB.out⟩
              case measure => simp [intOf]; omega
    · have HE : Hid (k = xs.length) := by show k = xs.length; omega
      have he : ((k : Int) == (xs.length : Int)) = true := by have := HE.out; simp [this]
      go_wp2
      go_ret3
      exact ⟨got_more HG.out HE.out, rfl⟩

end Go.Proofs.YteajbcngimccmaaDoor
