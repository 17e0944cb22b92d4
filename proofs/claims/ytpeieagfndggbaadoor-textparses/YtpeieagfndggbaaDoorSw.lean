/-
  The walks of the program's fits, may and Show, and of the writer's methods. Conditions: the table of what kinds need, and the library's powers of ten, read as their initialisers lay them.
-/
import Derived.Test.YtpeieagfndggbaaDoorTn
namespace Go.Proofs.YtpeieagfndggbaaDoor
open Go.RowKit Tx

def fit (n most : Int) : Bool := decide (1 ≤ n) && decide (n ≤ most)
theorem fits_any (n most : Int) (w : World) : Calls Tryd.prog 45 #[.int .i64 n, .int .i64 most] w fun e w' => e = .returned (.bool (fit n most)) ∧ w' = w := by
  by_cases h1 : 1 ≤ n
  · by_cases h2 : n ≤ most
    · have e : Hid (fit n most = true) := by show _ = true; unfold fit; rw [decide_eq_true h1, decide_eq_true h2]; rfl
      go_enter Tryd.func45, Tryd.ntmps45
      go_wp2
      go_ret
      exact ⟨by rw [e.out]; rfl, rfl⟩
    · have e : Hid (fit n most = false) := by show _ = false; unfold fit; rw [decide_eq_false h2, Bool.and_false]
      go_enter Tryd.func45, Tryd.ntmps45
      go_wp2
      go_ret
      exact ⟨by rw [e.out]; rfl, rfl⟩
  · have e : Hid (fit n most = false) := by show _ = false; unfold fit; rw [decide_eq_false h1, Bool.false_and]
    go_enter Tryd.func45, Tryd.ntmps45
    go_wp2
    go_ret
    exact ⟨by rw [e.out]; rfl, rfl⟩
/-- Can a line say a command? -/
def sayable (k h n : Int) (t : List Nat) : Bool := (decide (1 ≤ k) && decide (k ≤ 7)) && fit h 1048576 && (!numbered k.toNat || fit n 1073741824) && (!worded k.toNat || may t)
theorem cx_new (w : World) (u s k h n : Int) (t : ByteArray) : Cx (w.alloc (.cells #[.int .i64 u, .int .i64 s, .int .i64 k, .int .i64 h, .int .i64 n, .string t] 24)) w.heap.size u s k h n t := nalloc_new w _
set_option maxRecDepth 100000 in
theorem maysay_any (u s k h n : Int) (t : ByteArray) (w : World) (hN : Nd w) : Calls Tryd.prog 32 #[cv u s k h n t] w fun e w' => e = .returned (.bool (sayable k h n (nt t))) ∧ Below w.heap.size w w' := by
  have hS : Hid (sayable k h n (nt t) = ((decide (1 ≤ k) && decide (k ≤ 7)) && fit h 1048576 && (!numbered k.toNat || fit n 1073741824) && (!worded k.toNat || may (nt t)))) := rfl
  have HY := fun W => Lib.hid (typed_any k W)
  have HF := fun W => Lib.hid (fits_any h 1048576 W)
  have HG := fun W => Lib.hid (fits_any n 1073741824 W)
  have HM := fun W => Lib.hid (may_any t W)
  have b1 : Below w.heap.size w (w.alloc (.cells #[.int .i64 u, .int .i64 s, .int .i64 k, .int .i64 h, .int .i64 n, .string t] 24)) := (Below.refl _ _).alloc (Nat.le_refl _) _
  cases h1 : (decide (1 ≤ k) && decide (k ≤ 7))
  · rw [h1] at HY
    go_enter Tryd.func32, Tryd.ntmps32
    go_wp2_with (first
      | (go_at_call 40; refine (HY _).out.mono ?_; rintro e w' ⟨rfl, rfl⟩))
    go_ret
    exact ⟨by rw [hS.out, h1]; rfl, b1⟩
  · rw [h1] at HY
    cases h2 : fit h 1048576
    · rw [h2] at HF
      go_enter Tryd.func32, Tryd.ntmps32
      go_wp2_with (first
        | (go_at_call 40; refine (HY _).out.mono ?_; rintro e w' ⟨rfl, rfl⟩)
        | (go_at_call 45; refine (HF _).out.mono ?_; rintro e w' ⟨rfl, rfl⟩))
      go_ret
      exact ⟨by rw [hS.out, h1, h2]; rfl, b1⟩
    · rw [h2] at HF
      obtain ⟨K, rfl⟩ : ∃ K : Nat, k = K := ⟨k.toNat, by simp at h1; omega⟩
      have hK : K < 8 := by simp at h1; omega
      have i1 : (0 : Int) ≤ (K : Int) := by omega
      have i2 : (K : Int) < 8 := by omega
      obtain ⟨n1, n2⟩ := (hN.on b1).nd K hK
      rw [Int.toNat_natCast] at hS
      rw [h1, h2] at hS
      cases hn : numbered K
      · rw [hn] at n1 hS
        cases hw : worded K
        · rw [hw] at n2 hS
          go_enter Tryd.func32, Tryd.ntmps32
          go_wp2_with (first
            | (go_at_call 40; refine (HY _).out.mono ?_; rintro e w' ⟨rfl, rfl⟩)
            | (go_at_call 45; with_reducible refine (HF _).out.mono ?_; rintro e w' ⟨rfl, rfl⟩)
            | (go_at_call 45; with_reducible refine (HG _).out.mono ?_; rintro e w' ⟨rfl, rfl⟩)
            | (go_at_call 12; refine (HM _).out.mono ?_; rintro e w' ⟨rfl, hb⟩))
          go_ret
          exact ⟨by rw [hS.out]; rfl, b1.alloc (by simp) _⟩
        · rw [hw] at n2 hS
          cases hm : may (nt t)
          · rw [hm] at HM hS
            go_enter Tryd.func32, Tryd.ntmps32
            go_wp2_with (first
              | (go_at_call 40; refine (HY _).out.mono ?_; rintro e w' ⟨rfl, rfl⟩)
              | (go_at_call 45; with_reducible refine (HF _).out.mono ?_; rintro e w' ⟨rfl, rfl⟩)
              | (go_at_call 45; with_reducible refine (HG _).out.mono ?_; rintro e w' ⟨rfl, rfl⟩)
              | (go_at_call 12; refine (HM _).out.mono ?_; rintro e w' ⟨rfl, hb⟩))
            go_ret
            exact ⟨by rw [hS.out]; rfl, (b1.alloc (by simp) _).trans (hb.mono (by simp; omega))⟩
          · rw [hm] at HM hS
            go_enter Tryd.func32, Tryd.ntmps32
            go_wp2_with (first
              | (go_at_call 40; refine (HY _).out.mono ?_; rintro e w' ⟨rfl, rfl⟩)
              | (go_at_call 45; with_reducible refine (HF _).out.mono ?_; rintro e w' ⟨rfl, rfl⟩)
              | (go_at_call 45; with_reducible refine (HG _).out.mono ?_; rintro e w' ⟨rfl, rfl⟩)
              | (go_at_call 12; refine (HM _).out.mono ?_; rintro e w' ⟨rfl, hb⟩))
            go_ret
            exact ⟨by rw [hS.out]; rfl, (b1.alloc (by simp) _).trans (hb.mono (by simp; omega))⟩
      · rw [hn] at n1 hS
        cases h3 : fit n 1073741824
        · rw [h3] at HG hS
          rw [Bool.not_true, Bool.false_or, Bool.and_false, Bool.false_and] at hS
          go_enter Tryd.func32, Tryd.ntmps32
          go_wp2_with (first
            | (go_at_call 40; refine (HY _).out.mono ?_; rintro e w' ⟨rfl, rfl⟩)
            | (go_at_call 45; with_reducible refine (HF _).out.mono ?_; rintro e w' ⟨rfl, rfl⟩)
            | (go_at_call 45; with_reducible refine (HG _).out.mono ?_; rintro e w' ⟨rfl, rfl⟩)
            | (go_at_call 12; refine (HM _).out.mono ?_; rintro e w' ⟨rfl, hb⟩))
          go_ret
          exact ⟨by rw [hS.out]; rfl, b1.alloc (by simp) _⟩
        · rw [h3] at HG hS
          cases hw : worded K
          · rw [hw] at n2 hS
            go_enter Tryd.func32, Tryd.ntmps32
            go_wp2_with (first
              | (go_at_call 40; refine (HY _).out.mono ?_; rintro e w' ⟨rfl, rfl⟩)
              | (go_at_call 45; with_reducible refine (HF _).out.mono ?_; rintro e w' ⟨rfl, rfl⟩)
              | (go_at_call 45; with_reducible refine (HG _).out.mono ?_; rintro e w' ⟨rfl, rfl⟩)
              | (go_at_call 12; refine (HM _).out.mono ?_; rintro e w' ⟨rfl, hb⟩))
            go_ret
            exact ⟨by rw [hS.out]; rfl, b1.alloc (by simp) _⟩
          · rw [hw] at n2 hS
            cases hm : may (nt t)
            · rw [hm] at HM hS
              go_enter Tryd.func32, Tryd.ntmps32
              go_wp2_with (first
                | (go_at_call 40; refine (HY _).out.mono ?_; rintro e w' ⟨rfl, rfl⟩)
                | (go_at_call 45; with_reducible refine (HF _).out.mono ?_; rintro e w' ⟨rfl, rfl⟩)
                | (go_at_call 45; with_reducible refine (HG _).out.mono ?_; rintro e w' ⟨rfl, rfl⟩)
                | (go_at_call 12; refine (HM _).out.mono ?_; rintro e w' ⟨rfl, hb⟩))
              go_ret
              exact ⟨by rw [hS.out]; rfl, (b1.alloc (by simp) _).trans (hb.mono (by simp; omega))⟩
            · rw [hm] at HM hS
              go_enter Tryd.func32, Tryd.ntmps32
              go_wp2_with (first
                | (go_at_call 40; refine (HY _).out.mono ?_; rintro e w' ⟨rfl, rfl⟩)
                | (go_at_call 45; with_reducible refine (HF _).out.mono ?_; rintro e w' ⟨rfl, rfl⟩)
                | (go_at_call 45; with_reducible refine (HG _).out.mono ?_; rintro e w' ⟨rfl, rfl⟩)
                | (go_at_call 12; refine (HM _).out.mono ?_; rintro e w' ⟨rfl, hb⟩))
              go_ret
              exact ⟨by rw [hS.out]; rfl, (b1.alloc (by simp) _).trans (hb.mono (by simp; omega))⟩
end Go.Proofs.YtpeieagfndggbaaDoor
