/-
  The walk of part: the reports of those of some whose place is told. Conditions: at most 200 reports.
-/
import Derived.Test.YtgmfjoegfbaebaaRgMf
import Derived.Test.YtgmfjoegfbaebaaRgOpen
namespace Go.Proofs.Ytgmfjoegfbaebaa.Rg
open Go.RowKit In
set_option linter.unusedVariables false

theorem Bo.at_ {w : World} {B : Nat} {A : Option Addr} {l : List Bool} (h : Bo w B A l) {j : Nat} (hj : j < l.length) : ∃ b off, A = some ⟨b, off, none⟩ ∧ b < B ∧ w.cell? ⟨b, off + j, none⟩ = some (.bool l[j]) := by
  rcases h with rfl | ⟨b, off, h1, h2, h3⟩
  · simp at hj
  · exact ⟨b, off, h1, h2, h3 j _ (List.getElem?_eq_getElem hj)⟩
theorem Bo.below {w w' : World} {B : Nat} {A : Option Addr} {l : List Bool} (h : Bo w B A l) (hb : Below B w w') : Bo w' B A l := by
  rcases h with rfl | ⟨b, off, h1, h2, h3⟩
  · exact .inl rfl
  · exact .inr ⟨b, off, h1, h2, fun j x hx => (hb.cell (p := ⟨b, off + j, none⟩) h2).trans (h3 j x hx)⟩

set_option maxHeartbeats 1600000 in
theorem part_any (A : Option Addr) (c : Nat) (L : List Rp) (A' : Option Addr) (c' : Nat) (bs : List Bool) (hl : L.length ≤ 200) (w : World) (hs : Ls w w.heap.size A L) (hb : Bo w w.heap.size A' bs) :
    Calls Try.prog 17 #[.slice A L.length c, .slice A' bs.length c'] w (CtPost w (pk L bs (min L.length bs.length))) := by
  obtain ⟨i0, hi, hz0, hz1, hz2⟩ := info_parts info44
  have HS := Lib.hid hs
  have HW := Lib.hid hb
  clear hs hb
  go_enter Try.func17, Try.ntmps17
  go_wp2
  go_loopw [5, 6] (fun v t wr => ∃ (k : Nat) (v0 : Value), v0 = v ∧ k ≤ min L.length bs.length ∧ t = .int .i64 (k : Int) ∧ wr.ownsRow w.heap.size 44 14 v0 (pk L bs k).length (rls (pk L bs k)) ∧ Below w.heap.size w wr) (fun _ t _ => 201 - (intOf t).toNat)
  case atStart => exact ⟨0, _, rfl, Nat.zero_le _, rfl, World.ownsRow_nil _ _ _ _, Below.refl _ _⟩
  case round =>
    obtain ⟨k, v0, rfl, hk, rfl, own3, B3⟩ := hrel
    by_cases h1 : k < L.length
    · by_cases h2 : k < bs.length
      · have h1i : (k : Int) < (L.length : Int) := by omega
        have h2i : (k : Int) < (bs.length : Int) := by omega
        have h0i : (0 : Int) ≤ (k : Int) := by omega
        have hsz := B3.size
        have E9 := Lib.hid (pk_succ h1 h2)
        have hpl : (pk L bs k).length ≤ L.length := (pk_sub L bs k).length_le
        obtain ⟨b, off, hA, hbB, hq, hx⟩ := (HS.out.below B3).at_ h1
        obtain ⟨b', off', hA', hbB', hc⟩ := (HW.out.below B3).at_ h2
        obtain ⟨q0, q1, q2, q3, q4, q5, q6, q7, q8, q9, q10, q11, q12, q13⟩ := id hq
        generalize L[k] = x at *
        generalize bs[k] = d at *
        subst hA hA'
        rcases d with _ | _
        · go_wp2
          go_roundw
          case rel => exact ⟨k + 1, v0, rfl, by omega, by go_num, by rw [E9.out]; simpa using own3, B3⟩
          case measure => simp [intOf]; omega
        · go_wp2_with (at_builtin; refine wpList_append_own _ rfl (.tmp 23) (.tmp 28) 22 rfl w.heap.size 44 i0 (.agg #[.int .i64 0, .int .i64 0, .int .i64 0, .int .i64 0, .int .i64 0, .int .i64 0, .int .i64 0, .int .i64 0, .int .i64 0, .int .i64 0, .int .i64 0, .string ⟨#[]⟩, .int .i64 0, .slice none 0 0]) 14 136 Try.underlying22 hi hz0 hz1 hz2 rfl (by decide) _ (pk L bs k).length (rls (pk L bs k)) rfl (own3.alloc _) ⟨wr.heap.size, 0, none⟩ 1 1 (rpc x) rfl rfl (rep_cells wr x) (rpc_one _) (by unfold maxLen; omega) (by omega) (by simp; omega) ?_; intro v3 w3 hown3 hgrow3 _)
          go_roundw
          case rel =>
            have al := (Below.refl wr.heap.size wr).alloc (Nat.le_refl _) (.cells (rpc x).toArray 44)
            refine ⟨k + 1, v3, rfl, by omega, by go_num, ?_, ?_⟩
            · rw [E9.out]
              show w3.ownsRow w.heap.size 44 14 v3 (pk L bs k ++ [x]).length (rls (pk L bs k ++ [x]))
              rw [rls_snoc, List.length_append]
              exact hown3
            · exact (B3.trans (al.mono hsz)).grown hgrow3 (by simp; omega) (fun q hq => (own3.lt q hq).1)
          case measure => simp [intOf]; omega
      · have hke : k = min L.length bs.length := by omega
        have E9 := Lib.hid hke
        have h1i : (k : Int) < (L.length : Int) := by omega
        have h2i : ¬ (k : Int) < (bs.length : Int) := by omega
        clear hke
        go_wp2
        go_ret
        rw [← E9.out]
        obtain ⟨A9, c9, rfl, h9, _⟩ := own_ls own3 w.heap.size (fun x hx => (HS.out.below B3).of ((pk_sub L bs k).subset hx)) B3.size
        exact ⟨A9, c9, rfl, h9, B3⟩
    · have hke : k = min L.length bs.length := by omega
      have E9 := Lib.hid hke
      have h1i : ¬ (k : Int) < (L.length : Int) := by omega
      clear hke
      go_wp2
      go_ret
      rw [← E9.out]
      obtain ⟨A9, c9, rfl, h9, _⟩ := own_ls own3 w.heap.size (fun x hx => (HS.out.below B3).of ((pk_sub L bs k).subset hx)) B3.size
      exact ⟨A9, c9, rfl, h9, B3⟩

end Go.Proofs.Ytgmfjoegfbaebaa.Rg
