/-
  The walks of the search for a replica's first report: the closure that is asked, and slices.IndexFunc with it. Conditions: at most 200 reports; the replica's place is from 0 to 6.
-/
import Derived.Test.YtgmfjoegfbaebaaRgMem
namespace Go.Proofs.Ytgmfjoegfbaebaa.Rg
open Go.RowKit In
set_option linter.unusedVariables false

/-- An integer in a box. -/
def Nb (w : World) (B : Nat) (i : Int) : Prop := w.cell? ⟨B, 0, none⟩ = some (.int .i64 i)
theorem Nb.on {w w' : World} {B D : Nat} {i : Int} (h : Nb w B i) (hb : Below D w w') (hB : B < D) : Nb w' B i := (hb.cell (p := ⟨B, 0, none⟩) hB).trans h
theorem Nb.lt {w : World} {B : Nat} {i : Int} (h : Nb w B i) : B < w.heap.size := World.block_lt_of_cell? w _ h

theorem hit_any (x : Rp) (P i : Nat) (hi : i ≤ 6) (w : World) (hP : Nb w P (i : Int)) : Calls Try.prog 42 #[rp x, .pointer (some ⟨P, 0, none⟩)] w (Ba.BoolPost w (decide (x.f = (i : Int) + 1))) := by
  have hlt := hP.lt
  have c0 : w.cell? ⟨P, 0, none⟩ = some (.int .i64 (i : Int)) := hP
  have hw : wrap64 ((i : Int) + 1) = (i : Int) + 1 := by unfold wrap64; omega
  have H : Hid (decide (x.f = (i : Int) + 1) = (x.f == (i : Int) + 1)) := rfl
  generalize decide (x.f = (i : Int) + 1) = r at *
  go_enter Try.func42, Try.ntmps42
  go_wp2
  go_ret
  exact ⟨by rw [H.out]; rfl, (Below.refl _ _).alloc (Nat.le_refl _) _⟩

theorem index_any (P i : Nat) (hi : i ≤ 6) (A : Option Addr) (c : Nat) (l : List Rp) (w : World) (hs : Ls w w.heap.size A l) (hP : Nb w P (i : Int)) (hl : l.length ≤ 200) :
    Calls Try.prog 41 #[.slice A l.length c, .func (.func 42) #[] #[.pointer (some ⟨P, 0, none⟩)]] w (FndP w l ((i : Int) + 1)) := by
  have HS := Lib.hid hs
  have HP := Lib.hid hP
  have hPlt := hP.lt
  clear hs hP
  go_enter Try.func41, Try.ntmps41
  go_wp2
  go_loopw [8] (fun t wr => ∃ k : Nat, k ≤ l.length ∧ t = .int .i64 (k : Int) ∧ Below w.heap.size w wr ∧ ∀ j, (h : j < l.length) → j < k → l[j].f ≠ (i : Int) + 1) (fun t _ => 201 - (intOf t).toNat)
  case atStart => exact ⟨0, Nat.zero_le _, rfl, Below.refl _ _, fun j _ h => absurd h (Nat.not_lt_zero _)⟩
  case round =>
    obtain ⟨k, hk, rfl, hbel, hno⟩ := hrel
    have HN := Lib.hid hno
    clear hno
    by_cases hlt : k < l.length
    · have hlti : (k : Int) < (l.length : Int) := by omega
      obtain ⟨b, off, rfl, hb, hq, _⟩ := (HS.out.below hbel).at_ hlt
      obtain ⟨q0, q1, q2, q3, q4, q5, q6, q7, q8, q9, q10, q11, q12, q13⟩ := hq
      have hsz := hbel.size
      have HC : Hid (Calls Try.prog 42 #[rp l[k], .pointer (some ⟨P, 0, none⟩)] wr (Ba.BoolPost wr (decide (l[k].f = (i : Int) + 1)))) := hit_any l[k] P i hi wr (HP.out.on hbel hPlt)
      have HT : Hid (l[k].f ≠ (i : Int) + 1 → ∀ j, (h : j < l.length) → j < k + 1 → l[j].f ≠ (i : Int) + 1) := fun hne j hj hjk => by
        rcases Nat.lt_or_ge j k with h | h
        · exact HN.out j hj h
        · obtain rfl : j = k := by omega
          exact hne
      have HL : Hid (l[k].f = (i : Int) + 1 → Fnd l ((i : Int) + 1) (k : Int)) := fun he => .inr ⟨k, rfl, hlt, he, fun j hj => HN.out j (by omega) hj⟩
      generalize l[k] = x at *
      obtain ⟨xf, ⟨x0, x1, x2, x3, x4, x5, x6, x7, x8, x9, x10, x11, x12⟩, xA, xc⟩ := x
      simp only at q0 q1 q2 q3 q4 q5 q6 q7 q8 q9 q10 q11 q12 q13 HC HT HL
      rcases hr : decide (xf = (i : Int) + 1) with _ | _
      · rw [hr] at HC
        have hne : Hid (xf ≠ (i : Int) + 1) := of_decide_eq_false hr
        clear hr
        go_wp2_with fail
        refine HC.out.mono ?_
        rintro e w1 ⟨rfl, hb1⟩
        go_wp2
        go_roundw
        case rel => exact ⟨k + 1, by omega, by go_num, hbel.trans (hb1.mono hsz), HT.out hne.out⟩
        case measure => simp [intOf]; omega
      · rw [hr] at HC
        have hne := Lib.hid (of_decide_eq_true hr)
        clear hr
        go_wp2_with fail
        refine HC.out.mono ?_
        rintro e w1 ⟨rfl, hb1⟩
        go_wp2
        go_ret
        exact ⟨(k : Int), rfl, HL.out hne.out, hbel.trans (hb1.mono hsz)⟩
    · obtain rfl : k = l.length := by omega
      have HN' : Hid (Fnd l ((i : Int) + 1) (-1)) := .inl ⟨rfl, fun j hj => HN.out j hj hj⟩
      clear HN
      go_wp2
      go_ret
      exact ⟨-1, rfl, HN'.out, hbel⟩

end Go.Proofs.Ytgmfjoegfbaebaa.Rg
