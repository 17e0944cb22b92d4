/-
  Slices of lists that read as lists of lists; the walks of the document's two Same. Conditions: at most 1000 lists of at most 1000 integers.
-/
import Derived.Test.YtnfjfpiijikniaaRg
namespace Go.Proofs.Ytnfjfpiijikniaa.Gp
open Go.RowKit
set_option linter.unusedVariables false

theorem below_drewN {B : Nat} {a w : World} (h : Below B a w) (n : Nat) : Below B a (w.drewN n) := h.trans ⟨rfl, rfl, rfl, Nat.le_refl _, fun _ _ => rfl⟩

set_option maxHeartbeats 1000000 in
theorem same1_any (A A' : Option Addr) (c c' : Nat) (xs ys : List Int) (r : Bool) (hr : r = decide (xs = ys)) (hl : xs.length ≤ 1000) (w : World) (hx : Sl w w.heap.size A xs) (hy : Sl w w.heap.size A' ys) :
    Calls Try.prog 14 #[.slice A xs.length c, .slice A' ys.length c'] w (BoolPost w r) := by
  have HR := Lib.hid hr
  have HX := Lib.hid hx
  have HY := Lib.hid hy
  clear hr hx hy
  by_cases hlen : xs.length = ys.length
  · have hlen2 : ((xs.length : Int) != (ys.length : Int)) = false := by simp [hlen]
    have HL := Lib.hid hlen
    clear hlen
    go_enter Try.func14, Try.ntmps14
    go_wp2
    go_loopg [5] xs.length (fun g t wr => ∃ k : Nat, k + g = xs.length ∧ t = .int .i64 (k : Int) ∧ Below w.heap.size w wr ∧ Hid (xs.take k = ys.take k))
    case atStart => exact ⟨0, by omega, rfl, Below.refl _ _, by show _ = _; simp⟩
    case round =>
      obtain ⟨k, hk, rfl, hbel, hpre⟩ := hrel
      by_cases hlt : k < xs.length
      · have hlt' : k < ys.length := by have := HL.out; omega
        have hki : (k : Int) < (xs.length : Int) := by omega
        have hki' : (k : Int) < (ys.length : Int) := by omega
        have hk0 : (0 : Int) ≤ (k : Int) := by omega
        obtain ⟨b, off, rfl, hb, q⟩ := (HX.out.below hbel).at_ hlt
        obtain ⟨b', off', rfl, hb', q'⟩ := (HY.out.below hbel).at_ hlt'
        have HT : Hid (xs[k] = ys[k] → xs.take (k + 1) = ys.take (k + 1)) := fun e => by
          rw [List.take_succ_eq_append_getElem hlt, List.take_succ_eq_append_getElem hlt', hpre.out, e]
        have HF : Hid (xs[k] ≠ ys[k] → r = false) := fun e => by
          rw [HR.out]
          refine decide_eq_false fun h => e ?_
          subst h; rfl
        generalize xs[k] = x at *
        generalize ys[k] = y at *
        clear hpre
        by_cases he : x = y
        · have HP := Lib.hid (HT.out he)
          subst he
          clear HT HF
          go_wp2
          go_quiet (fail)
          go_wp2
          go_roundg (xs.length - (k + 1))
          case measure => omega
          case rel => exact ⟨k + 1, by omega, by go_num, below_drewN hbel _, HP.out⟩
        · obtain rfl := HF.out he
          have he2 : (x != y) = true := by simpa using he
          clear HT HF
          go_wp2
          go_quiet (fail)
          go_wp2
          go_ret
          exact ⟨rfl, below_drewN hbel _⟩
      · obtain rfl : k = xs.length := by omega
        have HP : Hid (r = true) := by
          show r = true
          rw [HR.out, decide_eq_true_iff]
          have := hpre.out
          rwa [List.take_length, HL.out, List.take_length] at this
        obtain rfl := HP.out
        go_wp2
        go_ret
        exact ⟨rfl, hbel⟩
  · have hlen2 : ((xs.length : Int) != (ys.length : Int)) = true := by simpa using (by omega : ¬ (xs.length : Int) = (ys.length : Int))
    have HP : Hid (r = false) := by
      show r = false
      rw [HR.out, decide_eq_false_iff_not]
      rintro rfl
      exact hlen rfl
    obtain rfl := HP.out
    clear hlen
    go_enter Try.func14, Try.ntmps14
    go_wp2
    go_ret
    exact ⟨rfl, Below.refl _ _⟩

/-- A slice of lists that reads as l, all of it below block B. -/
def Ll (w : World) (B : Nat) (A : Option Addr) (l : List (List Int)) : Prop :=
  l = [] ∨ ∃ b off, A = some ⟨b, off, none⟩ ∧ b < B ∧ ∀ i r, l[i]? = some r → ∃ A' c', w.cell? ⟨b, off + i, none⟩ = some (.slice A' r.length c') ∧ Sl w B A' r
theorem Ll.at_ {w : World} {B : Nat} {A : Option Addr} {l : List (List Int)} (h : Ll w B A l) {i : Nat} (hi : i < l.length) : ∃ b off A' c', A = some ⟨b, off, none⟩ ∧ b < B ∧ w.cell? ⟨b, off + i, none⟩ = some (.slice A' (l[i]).length c') ∧ Sl w B A' l[i] := by
  rcases h with rfl | ⟨b, off, hA, hb, hc⟩
  · simp at hi
  · obtain ⟨A', c', h1, h2⟩ := hc i l[i] (List.getElem?_eq_getElem hi)
    exact ⟨b, off, A', c', hA, hb, h1, h2⟩
theorem Ll.below {w w' : World} {B : Nat} {A : Option Addr} {l : List (List Int)} (h : Ll w B A l) (hb : Below B w w') : Ll w' B A l := by
  rcases h with rfl | ⟨b, off, hA, hlt, hc⟩
  · exact .inl rfl
  · refine .inr ⟨b, off, hA, hlt, fun i r hr => ?_⟩
    obtain ⟨A', c', h1, h2⟩ := hc i r hr
    exact ⟨A', c', (hb.cell (p := ⟨b, off + i, none⟩) hlt).trans h1, h2.below hb⟩
theorem Ll.mono {w : World} {B B' : Nat} {A : Option Addr} {l : List (List Int)} (h : Ll w B A l) (hB : B ≤ B') : Ll w B' A l := by
  rcases h with rfl | ⟨b, off, hA, hlt, hc⟩
  · exact .inl rfl
  · refine .inr ⟨b, off, hA, by omega, fun i r hr => ?_⟩
    obtain ⟨A', c', h1, h2⟩ := hc i r hr
    exact ⟨A', c', h1, h2.mono hB⟩
theorem Ll.to {w w' : World} {B : Nat} {A : Option Addr} {l : List (List Int)} (h : Ll w B A l) (hb : Below B w w') (hB : B ≤ w'.heap.size) : Ll w' w'.heap.size A l := (h.below hb).mono hB

set_option maxRecDepth 100000 in
set_option maxHeartbeats 4000000 in
theorem same2_any (A A' : Option Addr) (c c' : Nat) (xs ys : List (List Int)) (hxy : xs = ys) (hl : xs.length ≤ 1000) (hl2 : ∀ x ∈ xs, x.length ≤ 1000) (w : World) (hx : Ll w w.heap.size A xs) (hy : Ll w w.heap.size A' ys) :
    Calls Try.prog 11 #[.slice A xs.length c, .slice A' ys.length c'] w (BoolPost w true) := by
  subst hxy
  have HX := Lib.hid hx
  have HY := Lib.hid hy
  have HL := Lib.hid hl2
  clear hx hy hl2
  go_enter Try.func11, Try.ntmps11
  go_wp2
  go_loopg [5] xs.length (fun g t wr => ∃ k : Nat, k + g = xs.length ∧ t = .int .i64 (k : Int) ∧ Below w.heap.size w wr)
  case atStart => exact ⟨0, by omega, rfl, Below.refl _ _⟩
  case round =>
    obtain ⟨k, hk, rfl, hbel⟩ := hrel
    by_cases hlt : k < xs.length
    · have hki : (k : Int) < (xs.length : Int) := by omega
      have hk0 : (0 : Int) ≤ (k : Int) := by omega
      obtain ⟨b, off, B1, d1, rfl, hb, q, hq⟩ := (HX.out.below hbel).at_ hlt
      obtain ⟨b', off', B2, d2, rfl, hb', q', hq'⟩ := (HY.out.below hbel).at_ hlt
      have HQ := Lib.hid hq
      have HQ' := Lib.hid hq'
      have hxl := HL.out xs[k] (List.getElem_mem hlt)
      generalize xs[k] = x at *
      clear hq hq'
      go_wp2
      go_quiet (fail)
      have hbel1 := below_drewN hbel nq
      have K := Lib.hid (fun W (h : Below w.heap.size wr W) => (⟨(h.cell (p := ⟨b, off + k, none⟩) hb).trans q, (h.cell (p := ⟨b', off' + k, none⟩) hb').trans q'⟩ : W.cell? ⟨b, off + k, none⟩ = some (.slice B1 x.length d1) ∧ W.cell? ⟨b', off' + k, none⟩ = some (.slice B2 x.length d2)))
      have KB := Lib.hid hbel
      clear q q' hbel
      go_wp2
      go_loopg [6] x.length (fun g t W => ∃ j : Nat, j + g = x.length ∧ t = .int .i64 (j : Int) ∧ Below w.heap.size wr W)
      case atStart => exact ⟨0, by omega, rfl, below_drewN (Below.refl _ _) _⟩
      case round =>
        obtain ⟨j, hj, rfl, hbel⟩ := hrel
        obtain ⟨q, q'⟩ := K.out _ hbel
        by_cases hjt : j < x.length
        · have hji : (j : Int) < (x.length : Int) := by omega
          have hj0 : (0 : Int) ≤ (j : Int) := by omega
          obtain ⟨e1, o1, rfl, he1, p1⟩ := (HQ.out.below hbel).at_ hjt
          obtain ⟨e2, o2, rfl, he2, p2⟩ := (HQ'.out.below hbel).at_ hjt
          generalize x[j] = y at *
          go_wp2
          go_quiet (fail)
          go_wp2
          go_roundg (x.length - (j + 1))
          case measure => omega
          case rel => exact ⟨j + 1, by omega, by go_num, below_drewN hbel _⟩
        · obtain rfl : j = x.length := by omega
          have hB := KB.out.trans hbel
          go_wp2
          go_roundg (xs.length - (k + 1))
          case measure => omega
          case rel => exact ⟨k + 1, by omega, by go_num, hB⟩
    · obtain rfl : k = xs.length := by omega
      go_wp2
      go_ret
      exact ⟨rfl, hbel⟩

end Go.Proofs.Ytnfjfpiijikniaa.Gp
