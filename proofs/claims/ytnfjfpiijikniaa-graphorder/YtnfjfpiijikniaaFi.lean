/-
  The walk of slices.IndexFunc with the closure that tells whether a part is free. Conditions: at most 1000 parts, one of which is free.
-/
import Derived.Test.YtnfjfpiijikniaaFe
namespace Go.Proofs.Ytnfjfpiijikniaa.Gp
open Go.RowKit Go.Shelf
set_option linter.unusedVariables false

set_option maxHeartbeats 1000000 in
theorem fidx_any (gb tb hb : Nat) (base g c : Nat) (ps : List (List Nat)) (r : List Nat → Bool) (hl : ps.length ≤ 1000) (w : World) (hP : Pr w base (.slice (some ⟨g, 0, none⟩) ps.length c) ps)
    (hC : ∀ W, Below w.heap.size w W → ∀ p ∈ ps, ∀ h, Ir W h p → Calls Try.prog 31 #[h, .pointer (some ⟨gb, 0, none⟩), .pointer (some ⟨tb, 0, none⟩), .pointer (some ⟨hb, 0, none⟩)] W (BoolPost W (r p))) (hex : ∃ p, p ∈ ps ∧ r p = true) :
    Calls Try.prog 32 #[.slice (some ⟨g, 0, none⟩) ps.length c, .func (.func 31) #[] #[.pointer (some ⟨gb, 0, none⟩), .pointer (some ⟨tb, 0, none⟩), .pointer (some ⟨hb, 0, none⟩)]] w
      (fun e w' => (∃ A p C, ps = A ++ p :: C ∧ r p = true ∧ (∀ q ∈ A, r q = false) ∧ e = .returned (.int .i64 (A.length : Int))) ∧ Below w.heap.size w w') := by
  obtain ⟨hs, ho, hi⟩ := hP
  have HC := Lib.hid hC
  have HE := Lib.hid hex
  have HO := Lib.hid ho
  have HI := Lib.hid hi
  have hgl := (ho.lt g rfl).2
  clear hC hex ho hi
  go_enter Try.func32, Try.ntmps32
  go_wp2
  go_loopg [8] ps.length (fun q t W => ∃ k : Nat, k + q = ps.length ∧ t = .int .i64 (k : Int) ∧ Below w.heap.size w W ∧ Hid (∀ i p, i < k → ps[i]? = some p → r p = false))
  case atStart => exact ⟨0, by omega, rfl, Below.refl _ _, fun i p h => by omega⟩
  case round =>
    obtain ⟨k, hk, rfl, hbel, hno⟩ := hrel
    by_cases hlt : k < ps.length
    · have hki : (k : Int) < (ps.length : Int) := by omega
      have hk0 : (0 : Int) ≤ (k : Int) := by omega
      obtain ⟨x, h1, h2⟩ := HI.out k ps[k] (List.getElem?_eq_getElem hlt)
      have cx : wr.cell? ⟨g, k, none⟩ = some x := (World.cell?_of_block (a := ⟨g, k, none⟩) (hbel.block g hgl)).trans (own_cell HO.out h1)
      have HCk := Lib.hid (HC.out wr hbel ps[k] (List.getElem_mem hlt) x (h2.ut (Ut.of_below hbel)))
      have HX : Hid (ps[k]? = some ps[k]) := List.getElem?_eq_getElem hlt
      have HA : Hid (ps = ps.take k ++ ps[k] :: ps.drop (k + 1)) := by
        show _ = _
        rw [← List.drop_eq_getElem_cons hlt, List.take_append_drop]
      have HL : Hid ((ps.take k).length = k) := by
        show _ = _
        rw [List.length_take]; omega
      have HN : Hid (∀ q ∈ ps.take k, r q = false) := fun q hq => by
        obtain ⟨i, hiq⟩ := List.getElem?_of_mem hq
        rw [List.getElem?_take] at hiq
        split at hiq
        · rename_i hik; exact hno.out i q hik hiq
        · cases hiq
      obtain ⟨g', c', cur, rfl, _⟩ := h2
      clear h1
      generalize ps[k] = p at *
      rcases hr : r p with _ | _
      · have HR := Lib.hid hr
        rw [hr] at HCk
        clear hr
        go_wp2_with fail
        refine HCk.out.mono ?_
        rintro e w1 ⟨rfl, b1⟩
        have hB := hbel.trans (b1.mono hbel.size)
        have HN2 : Hid (∀ i q, i < k + 1 → ps[i]? = some q → r q = false) := fun i q hi hq => by
          rcases Nat.lt_or_ge i k with h | h
          · exact hno.out i q h hq
          · obtain rfl : i = k := by omega
            rw [HX.out] at hq
            cases hq
            exact HR.out
        go_wp2
        go_roundg (ps.length - (k + 1))
        case measure => omega
        case rel => exact ⟨k + 1, by omega, by go_num, hB, HN2.out⟩
      · have HR := Lib.hid hr
        rw [hr] at HCk
        clear hr
        go_wp2_with fail
        refine HCk.out.mono ?_
        rintro e w1 ⟨rfl, b1⟩
        have hB := hbel.trans (b1.mono hbel.size)
        go_wp2
        go_ret
        exact ⟨⟨_, p, _, HA.out, HR.out, HN.out, by rw [HL.out]; rfl⟩, hB⟩
    · obtain rfl : k = ps.length := by omega
      exfalso
      obtain ⟨p, hp, hr⟩ := HE.out
      obtain ⟨i, hip⟩ := List.getElem?_of_mem hp
      rw [hno.out i p (List.getElem?_eq_some_iff.1 hip).1 hip] at hr
      cases hr

end Go.Proofs.Ytnfjfpiijikniaa.Gp
