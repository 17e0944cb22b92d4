/-
  Plain words for RecordTurns: a list with one number that is another one, and with two neighbours that changed their places; a row of the call's own that is stored into. No conditions.
-/
import Derived.Test.YtaghbokgcpkjjaaSlices
namespace Go.Proofs.Ytaghbokgcpkjjaa
open Go.RowKit

theorem set_parts {xs : List Int} {k : Nat} (h : k < xs.length) (x : Int) : xs.set k x = xs.take k ++ x :: xs.drop (k + 1) := by
  rw [List.set_eq_take_append_cons_drop, if_pos h]

theorem sm_set {xs : List Int} {k : Nat} (h : k < xs.length) (hb : ∀ x ∈ xs, 0 ≤ x ∧ x ≤ 255) {x : Int} (x0 : 0 ≤ x) (x1 : x ≤ 255) (hne : x ≠ xs.getD k 0) : sm (xs.set k x) ≠ sm xs := by
  obtain ⟨f0, f1⟩ := hb (xs.getD k 0) (by simp [List.getD, h])
  have e : xs = xs.take k ++ xs.getD k 0 :: xs.drop (k + 1) := getD_take_drop h
  rw [set_parts h]
  intro hs
  exact sm_one (xs.take k) (xs.drop (k + 1)) x (xs.getD k 0) x0 x1 f0 f1 hne (hs.trans (congrArg sm e))

theorem sm_swap {xs : List Int} {j : Nat} (h : j + 1 < xs.length) (hb : ∀ x ∈ xs, 0 ≤ x ∧ x ≤ 255) (hne : xs.getD (j + 1) 0 ≠ xs.getD j 0) : sm ((xs.set (j + 1) (xs.getD j 0)).set j (xs.getD (j + 1) 0)) ≠ sm xs := by
  obtain ⟨f0, f1⟩ := hb (xs.getD (j + 1) 0) (by simp [List.getD, h])
  obtain ⟨g0, g1⟩ := hb (xs.getD j 0) (by simp [List.getD, show j < xs.length by omega])
  have e : xs = xs.take j ++ xs.getD j 0 :: xs.getD (j + 1) 0 :: xs.drop (j + 2) := by
    have e1 := getD_take_drop (b := xs) (k := j) (by omega)
    have e2 : xs.drop (j + 1) = xs.getD (j + 1) 0 :: xs.drop (j + 2) := by
      rw [List.drop_eq_getElem_cons h]; simp [List.getD, h]
    rw [e2] at e1
    exact e1
  generalize hp : xs.getD j 0 = p at *
  generalize hf : xs.getD (j + 1) 0 = f at *
  generalize ht : xs.take j = t at *
  generalize hr : xs.drop (j + 2) = r at *
  have hl : t.length = j := by rw [← ht, List.length_take]; omega
  have e3 : (xs.set (j + 1) p).set j f = t ++ f :: p :: r := by
    rw [e]
    rw [List.set_append_right _ _ (by omega), List.set_append_right _ _ (by omega), hl]
    simp
  rw [e3]
  intro hs
  exact sm_two t r f p f0 f1 g0 g1 hne (hs.trans (congrArg sm e))

/-- A row of the call's own that is not empty, told as a slice. -/
theorem row_form {w : World} {base : Nat} {v : Value} {xs : List Int} (h : w.ownsRow base 5 1 v xs.length (xs.map (Value.int .u8))) (hp : 0 < xs.length) :
    ∃ g c, v = .slice (some ⟨g, 0, none⟩) xs.length c ∧ base ≤ g := by
  rcases h.2 with ⟨_, h0⟩ | ⟨g, cap, cur, hv, hg, _⟩
  · omega
  · exact ⟨g, cap, hv, hg⟩

theorem row_cell {w : World} {base g c : Nat} {xs : List Int} (h : w.ownsRow base 5 1 (.slice (some ⟨g, 0, none⟩) xs.length c) xs.length (xs.map (Value.int .u8))) {j : Nat} (hj : j < xs.length) :
    w.cell? ⟨g, j, none⟩ = some (.int .u8 (xs.getD j 0)) := by
  rw [h.cellAt j (by omega)]
  simp [List.getD, hj]

theorem row_set {w : World} {base g c : Nat} {xs : List Int} (h : w.ownsRow base 5 1 (.slice (some ⟨g, 0, none⟩) xs.length c) xs.length (xs.map (Value.int .u8))) (j : Nat) (x : Int) :
    (w.setCell ⟨g, j, none⟩ (.int .u8 x)).ownsRow base 5 1 (.slice (some ⟨g, 0, none⟩) (xs.set j x).length c) (xs.set j x).length ((xs.set j x).map (Value.int .u8)) := by
  have := h.stored j (.int .u8 x)
  rw [List.length_set, List.map_set]
  exact this.1

theorem row_sl {w : World} {base g c : Nat} {xs : List Int} (h : w.ownsRow base 5 1 (.slice (some ⟨g, 0, none⟩) xs.length c) xs.length (xs.map (Value.int .u8))) : Sl w w.heap.size .u8 (some ⟨g, 0, none⟩) xs := by
  obtain ⟨A, c', hv, hs, _⟩ := own_slice h
  simp only [Value.slice.injEq] at hv
  rw [hv.1]
  exact hs

/-- What stands ahead of a record's body. -/
def hd (k : Int) (x : List Int) : List Int := vb k 0 ++ (vb (x.length : Int) 0 ++ su (sm x))
theorem rb_hd (k : Int) (x : List Int) : rb k x = hd k x ++ x := by rw [rb, hd]; simp only [List.append_assoc]
theorem rg_hd (k : Int) (b c : List Int) (k0 : 0 ≤ k) (k1 : k ≤ 1048576) (hb : b.length ≤ 1024) (hc : c.length = b.length) (hs : sm c ≠ sm b) : rg (hd k b ++ c) = (0, [], 0, 4) := by
  rw [← rg_turn k b c k0 k1 hb hc hs, hd]; simp only [List.append_assoc]
theorem getD_hd (p x : List Int) (j : Nat) : (p ++ x).getD (p.length + j) 0 = x.getD j 0 := by
  simp [List.getD, List.getElem?_append_right]
theorem set_hd (p x : List Int) (j : Nat) (v : Int) : (p ++ x).set (p.length + j) v = p ++ x.set j v := by
  rw [List.set_append_right _ _ (by omega), Nat.add_sub_cancel_left]
theorem set_bd {xs : List Int} (hb : ∀ x ∈ xs, 0 ≤ x ∧ x ≤ 255) {k : Nat} {v : Int} (v0 : 0 ≤ v) (v1 : v ≤ 255) : ∀ x ∈ xs.set k v, 0 ≤ x ∧ x ≤ 255 := by
  intro x hx
  rcases List.mem_or_eq_of_mem_set hx with h | rfl
  · exact hb x h
  · exact ⟨v0, v1⟩

/-- One byte of the body that is another one. -/
theorem turn_one {k : Int} {x : List Int} {j : Nat} {v : Int} (k0 : 0 ≤ k) (k1 : k ≤ 1048576) (hl : x.length ≤ 1024) (hb : ∀ n ∈ x, 0 ≤ n ∧ n ≤ 255) (hj : j < x.length) (v0 : 0 ≤ v) (v1 : v ≤ 255) (hne : v ≠ (rb k x).getD ((hd k x).length + j) 0) :
    rg ((rb k x).set ((hd k x).length + j) v) = (0, [], 0, 4) := by
  rw [rb_hd, getD_hd] at hne
  rw [rb_hd, set_hd]
  exact rg_hd k x _ k0 k1 hl (by simp) (sm_set hj hb v0 v1 hne)
/-- Two different neighbours of the body that changed their places. -/
theorem turn_two {k : Int} {x : List Int} {j : Nat} (k0 : 0 ≤ k) (k1 : k ≤ 1048576) (hl : x.length ≤ 1024) (hb : ∀ n ∈ x, 0 ≤ n ∧ n ≤ 255) (hj : j + 1 < x.length)
    (hne : (rb k x).getD ((hd k x).length + (j + 1)) 0 ≠ (rb k x).getD ((hd k x).length + j) 0) :
    rg (((rb k x).set ((hd k x).length + (j + 1)) ((rb k x).getD ((hd k x).length + j) 0)).set ((hd k x).length + j) ((rb k x).getD ((hd k x).length + (j + 1)) 0)) = (0, [], 0, 4) := by
  rw [rb_hd, getD_hd, getD_hd] at hne
  rw [rb_hd, getD_hd, getD_hd, set_hd, set_hd]
  exact rg_hd k x _ k0 k1 hl (by simp) (sm_swap hj hb hne)

end Go.Proofs.Ytaghbokgcpkjjaa
