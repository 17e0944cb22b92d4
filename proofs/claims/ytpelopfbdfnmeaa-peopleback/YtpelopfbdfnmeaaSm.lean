/-
  The walk of the statements' own Same: whether two channels are the same. Conditions: at most 1000 members.
-/
import Derived.Test.YtpelopfbdfnmeaaJo
namespace Go.Proofs.Ytpelopfbdfnmeaa
open Go.RowKit
set_option linter.unusedVariables false

/-- Two channels that are the same. -/
def sm (a a2 o o2 : Int) (l l2 : List Int) : Bool := decide (a = a2 ∧ o = o2 ∧ l = l2)
theorem sm_yes {a a2 o o2 : Int} {l l2 : List Int} (h1 : a = a2) (h2 : o = o2) (h3 : l.length = l2.length) (h4 : ∀ i, i < l.length → l.getD i 0 = l2.getD i 0) : sm a a2 o o2 l l2 = true := by
  unfold sm
  rw [decide_eq_true_eq]
  refine ⟨h1, h2, List.ext_getElem h3 fun i i1 i2 => ?_⟩
  have := h4 i i1
  rw [List.getD, List.getD, List.getElem?_eq_getElem i1, List.getElem?_eq_getElem i2] at this
  exact this
theorem sm_no {a a2 o o2 : Int} {l l2 : List Int} {k : Nat} (h : l.getD k 0 ≠ l2.getD k 0) : sm a a2 o o2 l l2 = false := by
  unfold sm
  rw [decide_eq_false_iff_not]
  rintro ⟨-, -, rfl⟩
  exact h rfl
theorem sm_self (a o : Int) (l : List Int) : sm a a o o l l = true := decide_eq_true ⟨rfl, rfl, rfl⟩

set_option maxHeartbeats 1000000 in
theorem same_any (a o a2 o2 : Int) (A A2 : Option Addr) (c c2 : Nat) (l l2 : List Int) (w : World) (hl : l.length ≤ 1000) (hl2 : l2.length ≤ 1000) (hs : Sl w w.heap.size .i64 A l) (hs2 : Sl w w.heap.size .i64 A2 l2) :
    Calls Try.prog 15 #[.agg #[.int .i64 a, .int .i64 o, .slice A l.length c], .agg #[.int .i64 a2, .int .i64 o2, .slice A2 l2.length c2]] w (BoolPost w (sm a a2 o o2 l l2)) := by
  have BW : Below w.heap.size w ((w.alloc (.cells #[.int .i64 a, .int .i64 o, .slice A l.length c] 24)).alloc (.cells #[.int .i64 a2, .int .i64 o2, .slice A2 l2.length c2] 24)) := ((Below.refl _ _).alloc (Nat.le_refl _) _).alloc (by simp) _
  have C0 : Cb ((w.alloc (.cells #[.int .i64 a, .int .i64 o, .slice A l.length c] 24)).alloc (.cells #[.int .i64 a2, .int .i64 o2, .slice A2 l2.length c2] 24)) w.heap.size a o A l.length c := ((cx_new w a o A l.length c).old _).cb
  have D0 : Cb ((w.alloc (.cells #[.int .i64 a, .int .i64 o, .slice A l.length c] 24)).alloc (.cells #[.int .i64 a2, .int .i64 o2, .slice A2 l2.length c2] 24)) (w.heap.size + 1) a2 o2 A2 l2.length c2 := by
    have := (cx_new (w.alloc (.cells #[.int .i64 a, .int .i64 o, .slice A l.length c] 24)) a2 o2 A2 l2.length c2).cb
    rw [show (w.alloc (.cells #[.int .i64 a, .int .i64 o, .slice A l.length c] 24)).heap.size = w.heap.size + 1 by simp] at this
    exact this
  have X1 := hs.to BW BW.size
  have X2 := hs2.to BW BW.size
  have HN1 : Hid (a ≠ a2 → sm a a2 o o2 l l2 = false) := fun h => decide_eq_false (fun q => h q.1)
  have HN2 : Hid (o ≠ o2 → sm a a2 o o2 l l2 = false) := fun h => decide_eq_false (fun q => h q.2.1)
  have HN3 : Hid (l.length ≠ l2.length → sm a a2 o o2 l l2 = false) := fun h => decide_eq_false (fun q => h (by rw [q.2.2]))
  have HY : Hid (a = a2 → o = o2 → l.length = l2.length → (∀ i, i < l.length → l.getD i 0 = l2.getD i 0) → sm a a2 o o2 l l2 = true) := sm_yes
  have HN : Hid (∀ k, l.getD k 0 ≠ l2.getD k 0 → sm a a2 o o2 l l2 = false) := fun k => sm_no
  generalize sm a a2 o o2 l l2 = r at *
  obtain ⟨p0, p1, p2⟩ := id C0
  obtain ⟨q0, q1, q2⟩ := id D0
  go_enter Try.func15, Try.ntmps15
  by_cases h1 : a = a2
  · by_cases h2 : o = o2
    · by_cases h3 : l.length = l2.length
      · have HY2 := Lib.hid (HY.out h1 h2 h3)
        have H3 := Lib.hid h3
        clear HY HN1 HN2 HN3
        subst h1
        subst h2
        have hb : ((l.length : Int) == (l2.length : Int)) = true := by rw [h3]; simp
        clear h3
        go_wp2
        clear p0 p1 p2 q0 q1 q2
        generalize ((w.alloc (.cells #[.int .i64 a, .int .i64 o, .slice A l.length c] 24)).alloc (.cells #[.int .i64 a, .int .i64 o, .slice A2 l2.length c2] 24)) = W0 at *
        go_loopw [5] (fun i wr => ∃ k : Nat, k ≤ l.length ∧ i = .int .i64 (k : Int) ∧ Below W0.heap.size W0 wr ∧ Hid (∀ i, i < k → l.getD i 0 = l2.getD i 0)) (fun i _ => l.length - (intOf i).toNat)
        case atStart => exact ⟨0, by omega, rfl, Below.refl _ _, fun i hi => by omega⟩
        case round =>
          obtain ⟨k, hk, rfl, hB, HA⟩ := hrel
          obtain ⟨p0, p1, p2⟩ := C0.on hB C0.lt
          obtain ⟨q0, q1, q2⟩ := D0.on hB D0.lt
          have BE := BW.trans (hB.mono BW.size)
          by_cases hlt : k < l.length
          · obtain ⟨b, off, rfl, hbl, hcell⟩ := (X1.below hB).at_ hlt
            obtain ⟨b2, off2, rfl, hbl2, hcell2⟩ := (X2.below hB).at_ (j := k) (by rw [← H3.out]; exact hlt)
            have hki : (k : Int) < (l.length : Int) := by omega
            have hki2 : (k : Int) < (l2.length : Int) := by rw [← H3.out]; exact hki
            have HN4 := Lib.hid (HN.out k)
            have HE : Hid (l.getD k 0 = l2.getD k 0 → ∀ i, i < k + 1 → l.getD i 0 = l2.getD i 0) := Lib.hid (fun h i hi => by
              rcases Nat.lt_or_ge i k with q | q
              · exact HA.out i q
              · obtain rfl : i = k := by omega
                exact h)
            clear HN HY2 HA
            generalize l.getD k 0 = x at *
            generalize l2.getD k 0 = y at *
            by_cases hx : x = y
            · have HE2 := Lib.hid (HE.out hx)
              subst hx
              clear HN4 HE
              go_wp2
              go_quiet (fail)
              go_wp2
              go_roundw
              case rel => exact ⟨k + 1, by omega, by go_num, below_drewN hB _, HE2.out⟩
              case measure => simp [intOf]; omega
            · have hxy : (x == y) = false := by rw [beq_eq_false_iff_ne]; exact hx
              obtain rfl := HN4.out hx
              go_wp2
              go_quiet (fail)
              go_wp2
              go_ret
              exact ⟨rfl, below_drewN BE _⟩
          · obtain rfl : k = l.length := by omega
            obtain rfl := HY2.out HA.out
            go_wp2
            go_ret
            exact ⟨rfl, BE⟩
      · obtain rfl := HN3.out h3
        subst h1
        subst h2
        have hb : ((l.length : Int) == (l2.length : Int)) = false := by rw [beq_eq_false_iff_ne]; omega
        go_wp2
        go_ret
        exact ⟨rfl, BW⟩
    · obtain rfl := HN2.out h2
      subst h1
      have hb : (o == o2) = false := by rw [beq_eq_false_iff_ne]; exact h2
      go_wp2
      go_ret
      exact ⟨rfl, BW⟩
  · obtain rfl := HN1.out h1
    have hb : (a == a2) = false := by rw [beq_eq_false_iff_ne]; exact h1
    go_wp2
    go_ret
    exact ⟨rfl, BW⟩

end Go.Proofs.Ytpelopfbdfnmeaa
