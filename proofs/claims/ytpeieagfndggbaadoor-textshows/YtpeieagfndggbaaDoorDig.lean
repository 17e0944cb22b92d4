/-
  The walks of the program's digits and pass. Conditions: of pass, the reader is a block of its own.
-/
import Derived.Test.YtpeieagfndggbaaDoorMay
namespace Go.Proofs.YtpeieagfndggbaaDoor
open Go.RowKit Tx

theorem take_all {p : Nat → Bool} : ∀ {l : List Nat} {k : Nat}, (∀ j, j < k → ∃ x, l[j]? = some x ∧ p x = true) → (∀ x, l[k]? = some x → p x = false) → k ≤ l.length → (l.takeWhile p).length = k
  | [], k, _, _, hk => Eq.symm (by simpa using hk)
  | a :: l, 0, _, h2, _ => by
    have := h2 a rfl
    rw [List.takeWhile_cons, this]; rfl
  | a :: l, k + 1, h1, h2, hk => by
    obtain ⟨x, hx, hp⟩ := h1 0 (by omega)
    obtain rfl : a = x := by simpa using hx
    rw [List.takeWhile_cons, hp]
    have := take_all (p := p) (l := l) (k := k) (fun j hj => by have := h1 (j + 1) (by omega); simpa using this) (fun x hx => h2 x (by simpa using hx)) (by simpa using hk)
    simp [this]
theorem dec_digit {s : ByteArray} {p : Nat} (h : p < s.size) : ∃ c, (nt s)[p]? = some c ∧ ((isd c = true ∧ Utf8.decode s p = (c, 1) ∧ 48 ≤ c ∧ c ≤ 57) ∨ (isd c = false ∧ ((Utf8.decode s p).1 < 48 ∨ 57 < (Utf8.decode s p).1))) := by
  obtain ⟨c, t, e⟩ := drop_cons (l := nt s) (p := p) (by rw [nt_len]; exact h)
  have hc : (nt s)[p]? = some c := by have := congrArg (fun l : List Nat => l[0]?) e; simpa using this
  have hb : ∀ k, (c :: t).getD k 0 < 256 := fun k => by rw [← e]; exact getD_lt s p k
  have hd : Utf8.decode s p = dec (c :: t) := by rw [dec_eq, e]
  refine ⟨c, hc, ?_⟩
  by_cases h1 : c < 128
  · have hz : sz (c :: t) = 1 := by rw [szN, if_pos h1]
    obtain ⟨h2, h3, -⟩ := dec_some hb (by omega)
    have e2 : Utf8.decode s p = (c, 1) := by rw [hd]; exact Prod.ext (h3 h1) (h2.trans hz)
    by_cases h4 : 48 ≤ c ∧ c ≤ 57
    · exact .inl ⟨by unfold isd; rw [decide_eq_true h4.1, decide_eq_true h4.2]; rfl, e2, h4.1, h4.2⟩
    · refine .inr ⟨?_, ?_⟩
      · unfold isd; rw [← Bool.not_eq_true, Bool.and_eq_true, decide_eq_true_eq, decide_eq_true_eq]; exact h4
      · rw [e2]; show c < 48 ∨ 57 < c; omega
  · refine .inr ⟨?_, ?_⟩
    · unfold isd; rw [← Bool.not_eq_true, Bool.and_eq_true, decide_eq_true_eq, decide_eq_true_eq]; omega
    · rw [hd]
      by_cases hz : sz (c :: t) = 0
      · rw [dec_none hb hz]; right; decide
      · obtain ⟨-, -, h4⟩ := dec_some hb hz
        have := (h4 (by omega)).1
        right; omega
/-- How many digits a text begins with. -/
def dgs (s : ByteArray) : Nat := ((nt s).takeWhile isd).length
set_option maxRecDepth 1000000 in
theorem digits_any (s : ByteArray) (w : World) : Calls Tryd.prog 50 #[.string s] w fun e w' => e = .returned (.int .i64 (dgs s)) ∧ ∃ pos, w' = w.iter s pos := by
  go_enter Tryd.func50, Tryd.ntmps50
  go_wp2
  go_loopw [] (fun w' => ∃ pos : Nat, w' = w.iter s pos ∧ pos ≤ s.size ∧ (∀ j, j < pos → ∃ x, (nt s)[j]? = some x ∧ isd x = true)) (fun w' => s.size - w'.iterPos w.heap.size)
  case atStart => exact ⟨0, rfl, by omega, fun j hj => by omega⟩
  case round =>
    obtain ⟨pos, rfl, hle, hok⟩ := hrel
    by_cases hp : pos < s.size
    · have hnx : ∀ ty, (Instr.next (.pointer (some ⟨w.heap.size, 0, none⟩)) true ty).run Tryd.prog (w.iter s pos) = _ := fun ty => run_next_any w s pos ty hp
      obtain ⟨c, hc, h⟩ := dec_digit hp
      rcases h with ⟨h1, h2, h3, h4⟩ | ⟨h1, h2⟩
      · rw [h2] at hnx
        have c1 : ¬ ((c : Int) < 48) := by omega
        have c2 : ¬ (57 < (c : Int)) := by omega
        go_wp2
        go_roundw
        case rel =>
          refine ⟨_, rfl, by omega, fun j hj => ?_⟩
          by_cases hj' : j < pos
          · exact hok j hj'
          · obtain rfl : j = pos := by omega
            exact ⟨c, hc, h1⟩
        case measure => simp; omega
      · have hk : dgs s = pos := take_all hok (fun x hx => by rw [hc] at hx; cases hx; exact h1) (by rw [nt_len]; exact hle)
        by_cases c1 : ((Utf8.decode s pos).1 : Int) < 48
        · go_wp2
          go_ret
          exact ⟨by first | rfl | (rw [hk]; rfl), _, rfl⟩
        · have c2 : 57 < ((Utf8.decode s pos).1 : Int) := by omega
          go_wp2
          go_ret
          exact ⟨by first | rfl | (rw [hk]; rfl), _, rfl⟩
    · have hnx : ∀ ty, (Instr.next (.pointer (some ⟨w.heap.size, 0, none⟩)) true ty).run Tryd.prog (w.iter s pos) = _ := fun ty => run_next_end w s pos ty hp
      have hk : dgs s = s.size := take_all (fun j hj => hok j (by omega)) (fun x hx => by rw [List.getElem?_eq_none (by rw [nt_len]; omega)] at hx; cases hx) (by rw [nt_len]; omega)
      go_wp2
      go_ret
      exact ⟨by first | rfl | (rw [hk]; rfl), _, rfl⟩

theorem below_set (B : Nat) (w : World) (i : Nat) (v : Value) : Below B w (w.setCell ⟨B, i, none⟩ v) := (Below.refl B w).setCell (Nat.le_refl B) v
/-- The panic with an error. -/
def wrong (c : Int) : Ending := .panicked [{ v := .iface 25 (.int .i64 c), recovered := false }]
theorem pre1 (l : List UInt8) (c : UInt8) : Lib.hasPrefix l [c] = true ↔ (l.map UInt8.toNat).head? = some c.toNat := by
  unfold Lib.hasPrefix
  cases l with
  | nil => simp
  | cons a t =>
    simp only [List.map_cons, List.head?_cons, Option.some.injEq]
    constructor
    · intro h; have : c = a := by simpa using h
      rw [this]
    · intro h; have : a = c := UInt8.toNat_inj.1 h
      simp [this]
theorem pass_yes (B : Nat) (l : ByteArray) (u s k h n : Int) (t : ByteArray) (m : UInt8) (w : World) (hr : Rx 37 w B l u s k h n t) (hm : (nt l).head? = some m.toNat) :
    Calls Tryd.prog 37 #[.pointer (some ⟨B, 0, none⟩), .string ⟨#[m]⟩] w fun e w' => e = .returned (.tuple #[]) ∧ ∃ l', nt l' = (nt l).tail ∧ Rx 37 w' B l' u s k h n t ∧ Below B w w' := by
  obtain ⟨c0, -⟩ := hr.cb
  have g0 := hr.free 0
  have hp : Lib.hasPrefix l.data.toList [m] = true := (pre1 _ _).2 hm
  have ht : nt ⟨(Lib.trimPrefix l.data.toList [m]).toArray⟩ = (nt l).tail := by
    rw [nt_mk, Lib.trimPrefix, if_pos hp]; unfold nt; simp
  go_enter Tryd.func37, Tryd.ntmps37
  go_wp2_with (go_at_call 48; refine (strings_CutPrefix _ _ _).mono ?_; rintro e w' ⟨rfl, rfl⟩; rw [hp])
  go_end0
  exact ⟨rfl, _, ht, hr.setl _, below_set B w' 0 _⟩
theorem pass_no (B : Nat) (l : ByteArray) (u s k h n : Int) (t : ByteArray) (m : UInt8) (w : World) (hr : Rx 37 w B l u s k h n t) (hm : (nt l).head? ≠ some m.toNat) :
    Calls Tryd.prog 37 #[.pointer (some ⟨B, 0, none⟩), .string ⟨#[m]⟩] w fun e w' => e = wrong 2 ∧ w' = w := by
  obtain ⟨c0, -⟩ := hr.cb
  have g0 := hr.free 0
  have hp : Lib.hasPrefix l.data.toList [m] = false := by rw [← Bool.not_eq_true]; exact fun q => hm ((pre1 _ _).1 q)
  go_enter Tryd.func37, Tryd.ntmps37
  go_wp2_with (go_at_call 48; refine (strings_CutPrefix _ _ _).mono ?_; rintro e w' ⟨rfl, rfl⟩; rw [hp])
  exact ⟨rfl, rfl, rfl⟩
end Go.Proofs.YtpeieagfndggbaaDoor
