/-
  The walk of inTurn at a reader's methods, and at a writer's. Conditions: what the methods answer, each.
-/
import Derived.Test.YtpeieagfndggbaaDoorRd
namespace Go.Proofs.YtpeieagfndggbaaDoor
open Go.RowKit Tx

/-- It answers, or it panics with an error. -/
def Out (Q : World → Prop) (R : Int → World → Prop) (e : Ending) (w : World) : Prop := (e = .returned (.tuple #[]) ∧ Q w) ∨ ∃ c : Int, e = wrong c ∧ R c w
abbrev mth (f : Nat) (p : Addr) : Value := .func (Fn.func f) #[.pointer (some p)] #[]
theorem turn_read (k : Nat) (hk : k < 8) (p : Addr) (w : World) (Q1 Q2 Q3 : World → Prop) (R : Int → World → Prop)
    (H1 : Calls Tryd.prog 22 #[.pointer (some p)] w (Out Q1 R))
    (N1 : ∀ w, Q1 w → Nd w) (N2 : ∀ w, Q2 w → Nd w)
    (H2 : numbered k = true → ∀ w, Q1 w → Calls Tryd.prog 23 #[.pointer (some p)] w (Out Q2 R))
    (G2 : numbered k = false → ∀ w, Q1 w → Q2 w)
    (H3 : worded k = true → ∀ w, Q2 w → Calls Tryd.prog 24 #[.pointer (some p)] w (Out Q3 R))
    (G3 : worded k = false → ∀ w, Q2 w → Q3 w) :
    Calls Tryd.prog 21 #[.int .i64 k, mth 22 p, mth 23 p, mth 24 p] w (Out Q3 R) := by
  have h1 := Lib.hid H1
  have i1 : (0 : Int) ≤ (k : Int) := by omega
  have i2 : (k : Int) < 8 := by omega
  go_enter Tryd.func21, Tryd.ntmps21
  go_wp2_with fail
  refine h1.out.mono ?_
  rintro e w1 (⟨rfl, q1⟩ | ⟨c, rfl, hR⟩)
  · have n1 := (N1 _ q1).nd k hk
    cases hn : numbered k
    · have q2 := Lib.hid (G2 hn _ q1)
      rw [hn] at n1
      obtain ⟨n1, n2⟩ := n1
      cases ht : worded k
      · rw [ht] at n2
        have q3 := Lib.hid (G3 ht _ q2.out)
        go_wp2
        go_end0
        exact .inl ⟨rfl, q3.out⟩
      · rw [ht] at n2
        have h3 := Lib.hid (H3 ht _ q2.out)
        go_wp2_with fail
        refine h3.out.mono ?_
        rintro e w3 (⟨rfl, q3⟩ | ⟨c, rfl, hR⟩)
        · have q3 := Lib.hid q3
          go_wp2
          go_end0
          exact .inl ⟨rfl, q3.out⟩
        · exact ⟨rfl, .inr ⟨c, rfl, hR⟩⟩
    · have h2 := Lib.hid (H2 hn _ q1)
      rw [hn] at n1
      obtain ⟨n1, -⟩ := n1
      go_wp2_with fail
      refine h2.out.mono ?_
      rintro e w2 (⟨rfl, q2⟩ | ⟨c, rfl, hR⟩)
      · have n2 := ((N2 _ q2).nd k hk).2
        have q2 := Lib.hid q2
        clear n1
        cases ht : worded k
        · rw [ht] at n2
          have q3 := Lib.hid (G3 ht _ q2.out)
          go_wp2
          go_end0
          exact .inl ⟨rfl, q3.out⟩
        · rw [ht] at n2
          have h3 := Lib.hid (H3 ht _ q2.out)
          go_wp2_with fail
          refine h3.out.mono ?_
          rintro e w3 (⟨rfl, q3⟩ | ⟨c, rfl, hR⟩)
          · have q3 := Lib.hid q3
            go_wp2
            go_end0
            exact .inl ⟨rfl, q3.out⟩
          · exact ⟨rfl, .inr ⟨c, rfl, hR⟩⟩
      · exact ⟨rfl, .inr ⟨c, rfl, hR⟩⟩
  · exact ⟨rfl, .inr ⟨c, rfl, hR⟩⟩
theorem turn_write (k : Nat) (hk : k < 8) (p : Addr) (w : World) (Q1 Q2 Q3 : World → Prop) (R : Int → World → Prop)
    (H1 : Calls Tryd.prog 33 #[.pointer (some p)] w (Out Q1 R))
    (N1 : ∀ w, Q1 w → Nd w) (N2 : ∀ w, Q2 w → Nd w)
    (H2 : numbered k = true → ∀ w, Q1 w → Calls Tryd.prog 34 #[.pointer (some p)] w (Out Q2 R))
    (G2 : numbered k = false → ∀ w, Q1 w → Q2 w)
    (H3 : worded k = true → ∀ w, Q2 w → Calls Tryd.prog 35 #[.pointer (some p)] w (Out Q3 R))
    (G3 : worded k = false → ∀ w, Q2 w → Q3 w) :
    Calls Tryd.prog 21 #[.int .i64 k, mth 33 p, mth 34 p, mth 35 p] w (Out Q3 R) := by
  have h1 := Lib.hid H1
  have i1 : (0 : Int) ≤ (k : Int) := by omega
  have i2 : (k : Int) < 8 := by omega
  go_enter Tryd.func21, Tryd.ntmps21
  go_wp2_with fail
  refine h1.out.mono ?_
  rintro e w1 (⟨rfl, q1⟩ | ⟨c, rfl, hR⟩)
  · have n1 := (N1 _ q1).nd k hk
    cases hn : numbered k
    · have q2 := Lib.hid (G2 hn _ q1)
      rw [hn] at n1
      obtain ⟨n1, n2⟩ := n1
      cases ht : worded k
      · rw [ht] at n2
        have q3 := Lib.hid (G3 ht _ q2.out)
        go_wp2
        go_end0
        exact .inl ⟨rfl, q3.out⟩
      · rw [ht] at n2
        have h3 := Lib.hid (H3 ht _ q2.out)
        go_wp2_with fail
        refine h3.out.mono ?_
        rintro e w3 (⟨rfl, q3⟩ | ⟨c, rfl, hR⟩)
        · have q3 := Lib.hid q3
          go_wp2
          go_end0
          exact .inl ⟨rfl, q3.out⟩
        · exact ⟨rfl, .inr ⟨c, rfl, hR⟩⟩
    · have h2 := Lib.hid (H2 hn _ q1)
      rw [hn] at n1
      obtain ⟨n1, -⟩ := n1
      go_wp2_with fail
      refine h2.out.mono ?_
      rintro e w2 (⟨rfl, q2⟩ | ⟨c, rfl, hR⟩)
      · have n2 := ((N2 _ q2).nd k hk).2
        have q2 := Lib.hid q2
        clear n1
        cases ht : worded k
        · rw [ht] at n2
          have q3 := Lib.hid (G3 ht _ q2.out)
          go_wp2
          go_end0
          exact .inl ⟨rfl, q3.out⟩
        · rw [ht] at n2
          have h3 := Lib.hid (H3 ht _ q2.out)
          go_wp2_with fail
          refine h3.out.mono ?_
          rintro e w3 (⟨rfl, q3⟩ | ⟨c, rfl, hR⟩)
          · have q3 := Lib.hid q3
            go_wp2
            go_end0
            exact .inl ⟨rfl, q3.out⟩
          · exact ⟨rfl, .inr ⟨c, rfl, hR⟩⟩
      · exact ⟨rfl, .inr ⟨c, rfl, hR⟩⟩
  · exact ⟨rfl, .inr ⟨c, rfl, hR⟩⟩
end Go.Proofs.YtpeieagfndggbaaDoor
