/-
  What a sort leaves, in the words of this seat's memory: of a row of integers, and of a row of whatever one cell holds. Conditions: each thing is told once.
-/
import Derived.Test.YtnfjfpiijikniaaWk
import Derived.Test.YtnfjfpiijikniaaShelf
namespace Go.Proofs.Ytnfjfpiijikniaa.Gp
open Go.RowKit Go.Sort
set_option linter.unusedVariables false

section
variable {α : Type} [Inhabited α] {enc : α → Value}
theorem holds_own {w : World} {base : Nat} {e : TypeId} {g c n : Nat} {l : List α} (h : w.ownsRow base e 1 (.slice (some ⟨g, 0, none⟩) n c) n (l.map enc)) : Holds enc w g 0 l.toArray := by
  intro j hj
  have hj' : j < l.length := by simpa using hj
  refine ⟨?_, ?_⟩
  · rw [Nat.zero_add, own_cell h (j := j) (u := enc l[j]) (by simp [hj'])]
    simp [hj']
  · rcases h.2 with ⟨h0, _⟩ | ⟨g', cap, cur, hv, _, hh, _⟩
    · cases h0
    · simp only [Value.slice.injEq, Option.some.injEq, Addr.mk.injEq] at hv
      obtain ⟨⟨rfl, _⟩, _⟩ := hv
      exact Lib.frozen_of_heap hh _
theorem put_heap {w : World} {g k : Nat} {os : Array Obj} {cur : Array Value} {e : TypeId} {fr : Nat × Nat} (d : Array α) (hb : w.heap[g]? = some (.cells cur e fr)) :
    (grow (putRow enc (Sort.ahead w k) g 0 d) os).heap[g]? = some (.cells (putCells enc 0 d cur) e fr) := by
  have hg : g < w.heap.size := (Array.getElem?_eq_some_iff.1 hb).1
  rw [heap_grow_old _ _ (by simpa using hg)]
  simp [putRow, mapBlock, Sort.ahead, Array.getElem?_modify, hb, onCells]
theorem put_off {w : World} {g k : Nat} {os : Array Obj} (d : Array α) : Off (· = g) w (grow (putRow enc (Sort.ahead w k) g 0 d) os) := by
  refine ⟨rfl, rfl, rfl, by simp, fun i hi hne => ?_⟩
  rw [heap_grow_old _ _ (by simpa using hi)]
  have : g ≠ i := fun e => hne e.symm
  simp [putRow, mapBlock, Sort.ahead, Array.getElem?_modify, this]
theorem put_own {w : World} {base : Nat} {e : TypeId} {g c n k : Nat} {os : Array Obj} {l : List Value} (h : w.ownsRow base e 1 (.slice (some ⟨g, 0, none⟩) n c) n l) (d : Array α) (hd : d.size = n) :
    (grow (putRow enc (Sort.ahead w k) g 0 d) os).ownsRow base e 1 (.slice (some ⟨g, 0, none⟩) n c) n (d.toList.map enc) := by
  rcases h.2 with ⟨h0, _⟩ | ⟨g', cap, cur, hv, hb, hh, h1, h2, h3, h4⟩
  · cases h0
  · simp only [Value.slice.injEq, Option.some.injEq, Addr.mk.injEq] at hv
    obtain ⟨⟨rfl, _⟩, _, rfl⟩ := hv
    refine ⟨by simp [hd], .inr ⟨g, c, _, rfl, hb, put_heap d hh, h1, h2, by simp [putCells, h3], ?_⟩⟩
    apply List.ext_getElem?
    intro j
    by_cases hj : j < n
    · rw [List.getElem?_take_of_lt (by omega), Array.getElem?_toList]
      simp [putCells, hd, hj, show j < cur.size by omega]
    · rw [List.getElem?_take_eq_none (by omega), List.getElem?_eq_none (by simp; omega)]
end

theorem iv_zs (l : List Nat) : iv l = (zs l).map (Value.int .i64) := by simp [iv, zs]

theorem sort_any (base g c : Nat) (l cs : List Nat) (hl : l.length ≤ 1000) (hn : l.Nodup) (hc : cs.Pairwise (· < ·)) (hm : ∀ x, x ∈ l ↔ x ∈ cs) (w : World) (h : w.ownsRow base 3 1 (.slice (some ⟨g, 0, none⟩) l.length c) l.length (iv l)) :
    Calls Try.prog 27 #[.slice (some ⟨g, 0, none⟩) l.length c] w (fun e w' => e = .returned (.tuple #[]) ∧ w'.ownsRow base 3 1 (.slice (some ⟨g, 0, none⟩) cs.length c) cs.length (iv cs) ∧ Off (· = g) w w') := by
  have hlen := len_same hn (rises_nodup hc) hm
  rw [iv_zs] at h
  have hlt := (h.lt g rfl).2
  have := slices_Sort_int g 0 c (zs l) w (holds_own h) hlt (by rw [zs_len]; omega)
  rw [zs_len, sorted_zs hn hc hm] at this
  refine this.mono ?_
  rintro e w' ⟨rfl, n, os, rfl⟩
  refine ⟨rfl, ?_, put_off _⟩
  have := put_own (enc := Value.int .i64) (k := n) (os := os) h (zs cs).toArray (by simp [zs_len, hlen])
  rw [← hlen, iv_zs]
  simpa using this

/-- The first place at which x stands, or -1. -/
def Fnd (l : List Int) (x z : Int) : Prop := (z = -1 ∧ x ∉ l) ∨ ∃ k : Nat, z = (k : Int) ∧ k < l.length ∧ l[k]? = some x

set_option maxHeartbeats 1000000 in
theorem index_any (A : Option Addr) (c : Nat) (l : List Int) (x : Int) (hl : l.length ≤ 1000) (w : World) (hs : Sl w w.heap.size A l) :
    Calls Try.prog 41 #[.slice A l.length c, .int .i64 x] w (fun e w' => ∃ z, e = .returned (.int .i64 z) ∧ Fnd l x z ∧ w' = w) := by
  have HS := Lib.hid hs
  clear hs
  go_enter Try.func41, Try.ntmps41
  go_wp2
  go_loopw [8] (fun t wr => ∃ k : Nat, k ≤ l.length ∧ t = .int .i64 (k : Int) ∧ wr = w ∧ Hid (∀ j, j < k → l[j]? ≠ some x)) (fun t _ => 1001 - (intOf t).toNat)
  case atStart => exact ⟨0, Nat.zero_le _, rfl, rfl, fun j h => by omega⟩
  case round =>
    obtain ⟨k, hk, rfl, rfl, hno⟩ := hrel
    by_cases hlt : k < l.length
    · have hlti : (k : Int) < (l.length : Int) := by omega
      have hk0 : (0 : Int) ≤ (k : Int) := by omega
      obtain ⟨b, off, rfl, hb, hq⟩ := HS.out.at_ hlt
      have HT : Hid (l[k] ≠ x → ∀ j, j < k + 1 → l[j]? ≠ some x) := fun hne j hjk => by
        rcases Nat.lt_or_ge j k with h | h
        · exact hno.out j h
        · obtain rfl : j = k := by omega
          rw [List.getElem?_eq_getElem hlt]
          simpa using hne
      have HL : Hid (l[k] = x → Fnd l x (k : Int)) := fun he => .inr ⟨k, rfl, hlt, by rw [List.getElem?_eq_getElem hlt, he]⟩
      generalize l[k] = y at *
      by_cases hr : x = y
      · have HR := Lib.hid (HL.out hr.symm)
        subst hr
        clear HT HL hno
        go_wp2
        go_ret
        exact ⟨(k : Int), rfl, HR.out, rfl⟩
      · have HR := Lib.hid (HT.out (fun e => hr e.symm))
        have hr2 : (x == y) = false := by simpa using hr
        clear HT HL hno
        go_wp2
        go_roundw
        case rel => exact ⟨k + 1, by omega, by go_num, by first | rfl | trivial, HR.out⟩
        case measure => simp [intOf]; omega
    · obtain rfl : k = l.length := by omega
      have HR : Hid (Fnd l x (-1)) := .inl ⟨rfl, fun hx => by
        obtain ⟨j, hj⟩ := List.getElem?_of_mem hx
        exact hno.out j (List.getElem?_eq_some_iff.1 hj).1 hj⟩
      go_wp2
      go_ret
      exact ⟨-1, rfl, HR.out, rfl⟩

theorem contains_any (A : Option Addr) (c : Nat) (l : List Int) (x : Int) (r : Bool) (hr : r = decide (x ∈ l)) (hl : l.length ≤ 1000) (w : World) (hs : Sl w w.heap.size A l) :
    Calls Try.prog 28 #[.slice A l.length c, .int .i64 x] w (fun e w' => e = .returned (.bool r) ∧ w' = w) := by
  have HI := Lib.hid (index_any A c l x hl w hs)
  have HR := Lib.hid hr
  clear hs hr
  go_enter Try.func28, Try.ntmps28
  go_wp2_with fail
  refine HI.out.mono ?_
  rintro e w1 ⟨z, rfl, hz, rfl⟩
  rcases hz with ⟨rfl, hz⟩ | ⟨k, rfl, hk, he⟩
  · obtain rfl : r = false := by rw [HR.out]; simpa using hz
    go_wp2
    go_ret
    exact ⟨rfl, rfl⟩
  · obtain rfl : r = true := by rw [HR.out]; simpa using List.mem_of_getElem? he
    have h0 : (0 : Int) ≤ (k : Int) := by omega
    have h1 : ¬ (k : Int) < 0 := by omega
    go_wp2
    go_ret
    exact ⟨rfl, rfl⟩

end Go.Proofs.Ytnfjfpiijikniaa.Gp
