/-
  The walks of the program's isStray, May and digits: a text may be just if the document's own steps say so; how many digits a text begins with. Conditions: fewer than 2^62 bytes.
-/
import Derived.Test.YtpeieagfndggbaaDoorMem
import Derived.Laws.RangeAny
namespace Go.Proofs.YtpeieagfndggbaaDoor
open Go.RowKit Tx

theorem pre3 (l : List UInt8) : Lib.hasPrefix l [239, 191, 189] = true ↔ ∃ t, l.map UInt8.toNat = 239 :: 191 :: 189 :: t := by
  unfold Lib.hasPrefix
  constructor
  · intro h
    obtain ⟨t, rfl⟩ := List.isPrefixOf_iff_prefix.1 h
    exact ⟨t.map UInt8.toNat, rfl⟩
  · rintro ⟨t, h⟩
    match l, h with
    | [], h => simp at h
    | [a], h => simp at h
    | [a, b], h => simp at h
    | a :: b :: c :: l', h =>
      simp only [List.map_cons, List.cons.injEq] at h
      obtain ⟨h1, h2, h3, -⟩ := h
      have e1 : a = 239 := UInt8.toNat_inj.1 h1
      have e2 : b = 191 := UInt8.toNat_inj.1 h2
      have e3 : c = 189 := UInt8.toNat_inj.1 h3
      subst e1 e2 e3
      exact List.isPrefixOf_iff_prefix.2 ⟨l', rfl⟩
/-- Is the rune that a range tells of a byte that is no rune? -/
def stray (s : ByteArray) (r : Int) : Bool := decide (r = 65533) && !(Lib.hasPrefix s.data.toList [239, 191, 189])
theorem stray_any (s : ByteArray) (r : Int) (w : World) : Calls Tryd.prog 30 #[.string s, .int .i32 r] w fun e w' => e = .returned (.bool (stray s r)) ∧ w' = w := by
  by_cases h : r = 65533
  · have e : Hid (stray s r = !(Lib.hasPrefix s.data.toList [239, 191, 189])) := by show stray s r = _; unfold stray; rw [decide_eq_true h, Bool.true_and]
    go_enter Tryd.func30, Tryd.ntmps30
    go_wp2_with (first | (go_at_call 43; refine (strings_HasPrefix _ _ _).mono ?_; rintro e w' ⟨rfl, rfl⟩))
    go_ret
    exact ⟨by rw [e.out]; rfl, rfl⟩
  · have e : Hid (stray s r = false) := by show stray s r = _; unfold stray; rw [decide_eq_false h, Bool.false_and]
    go_enter Tryd.func30, Tryd.ntmps30
    go_wp2
    go_ret
    exact ⟨by rw [e.out]; rfl, rfl⟩

theorem drop_cons {l : List Nat} {p : Nat} (h : p < l.length) : ∃ c t, l.drop p = c :: t := by
  cases e : l.drop p with
  | nil => have := congrArg List.length e; rw [List.length_drop, List.length_nil] at this; omega
  | cons c t => exact ⟨c, t, rfl⟩
theorem getD_lt (s : ByteArray) (p k : Nat) : ((nt s).drop p).getD k 0 < 256 := by
  rw [List.getD_eq_getElem?_getD, List.getElem?_drop, ← List.getD_eq_getElem?_getD, nt_get]
  exact UInt8.toNat_lt _
theorem nt_tail (s : ByteArray) (p : Nat) : nt (s.extract p s.size) = (nt s).drop p := by
  rw [nt_extract, List.take_of_length_le (by rw [nt_len]; exact Nat.le_refl _)]
/-- A rune that ends it. -/
def bad (s : ByteArray) (p : Nat) : Prop := (Utf8.decode s p).1 < 32 ∨ (Utf8.decode s p).1 = 127 ∨ stray (s.extract p s.size) ((Utf8.decode s p).1 : Int) = true
theorem bad_iff {s : ByteArray} {p : Nat} (h : p < s.size) {c : Nat} {t : List Nat} (e : (nt s).drop p = c :: t) : bad s p ↔ sz (c :: t) = 0 ∨ c < 32 ∨ c = 127 := by
  have hd : Utf8.decode s p = dec (c :: t) := by rw [dec_eq, e]
  have hb : ∀ k, (c :: t).getD k 0 < 256 := fun k => by rw [← e]; exact getD_lt s p k
  have hx : (s.extract p s.size).data.toList.map UInt8.toNat = c :: t := by rw [← e]; exact nt_tail s p
  have hs : ∀ r : Nat, stray (s.extract p s.size) (r : Int) = true ↔ r = 65533 ∧ ¬ ∃ u, c :: t = 239 :: 191 :: 189 :: u := by
    intro r
    unfold stray
    rw [Bool.and_eq_true, Bool.not_eq_true', ← Bool.not_eq_true, pre3, hx, decide_eq_true_eq]
    constructor
    · rintro ⟨h1, h2⟩; exact ⟨by omega, h2⟩
    · rintro ⟨h1, h2⟩; exact ⟨by omega, h2⟩
  unfold bad
  rw [hs, hd]
  by_cases hz : sz (c :: t) = 0
  · rw [dec_none hb hz]
    refine ⟨fun _ => .inl hz, fun _ => .inr (.inr ⟨rfl, ?_⟩)⟩
    rintro ⟨u, hu⟩
    rw [hu, sz_fffd] at hz
    cases hz
  · obtain ⟨h2, h3, h4⟩ := dec_some hb hz
    by_cases hc : c < 128
    · rw [h3 hc]
      constructor
      · rintro (h | h | ⟨h, -⟩)
        · exact .inr (.inl h)
        · exact .inr (.inr h)
        · omega
      · rintro (h | h | h)
        · exact absurd h hz
        · exact .inl h
        · exact .inr (.inl h)
    · obtain ⟨h5, h6⟩ := h4 (by omega)
      constructor
      · rintro (h | h | ⟨h, hn⟩)
        · omega
        · omega
        · obtain ⟨q1, q2, q3, q4⟩ := h6 h
          exfalso
          refine hn ?_
          match t, q2, q3, q4 with
          | a :: b :: u, q2, q3, _ =>
            simp only [List.getD_cons_zero, List.getD_cons_succ] at q2 q3
            exact ⟨u, by rw [q1, q2, q3]⟩
      · rintro (h | h | h)
        · exact absurd h hz
        · omega
        · omega
theorem ok_bad {s : ByteArray} {p : Nat} (h : p < s.size) (hb : bad s p) : okl ((nt s).drop p) = false := by
  obtain ⟨c, t, e⟩ := drop_cons (l := nt s) (p := p) (by rw [nt_len]; exact h)
  rw [e, okl_cons, if_pos ((bad_iff h e).1 hb)]
theorem ok_good {s : ByteArray} {p : Nat} (h : p < s.size) (hb : ¬ bad s p) : okl ((nt s).drop p) = okl ((nt s).drop (p + (Utf8.decode s p).2)) ∧ 1 ≤ (Utf8.decode s p).2 ∧ p + (Utf8.decode s p).2 ≤ s.size := by
  obtain ⟨c, t, e⟩ := drop_cons (l := nt s) (p := p) (by rw [nt_len]; exact h)
  have hn := fun q => hb ((bad_iff h e).2 q)
  have hd : Utf8.decode s p = dec (c :: t) := by rw [dec_eq, e]
  have hbb : ∀ k, (c :: t).getD k 0 < 256 := fun k => by rw [← e]; exact getD_lt s p k
  have hz : sz (c :: t) ≠ 0 := fun q => hn (.inl q)
  obtain ⟨h2, -, -⟩ := dec_some hbb hz
  have hl := sz_le (c :: t)
  have hlen : (c :: t).length = s.size - p := by rw [← e, List.length_drop, nt_len]
  rw [hd, h2]
  refine ⟨?_, by omega, by omega⟩
  rw [← List.drop_drop, e, okl_cons, if_neg hn]

set_option maxRecDepth 1000000 in
theorem may_any (s : ByteArray) (w : World) : Calls Tryd.prog 12 #[.string s] w fun e w' => e = .returned (.bool (may (nt s))) ∧ Below w.heap.size w w' := by
  have hM : Hid (may (nt s) = (decide (1 ≤ s.size) && decide (s.size ≤ 64) && okl (nt s))) := by show may (nt s) = _; unfold may; rw [nt_len]
  by_cases h1 : s.size < 1
  · go_enter Tryd.func12, Tryd.ntmps12
    go_wp2
    go_ret
    exact ⟨by rw [hM.out, decide_eq_false (p := 1 ≤ s.size) (by omega), Bool.false_and, Bool.false_and]; rfl, Below.refl _ _⟩
  · by_cases h2 : s.size > 64
    · go_enter Tryd.func12, Tryd.ntmps12
      go_wp2
      go_ret
      exact ⟨by rw [hM.out, decide_eq_false (p := s.size ≤ 64) (by omega), Bool.and_false, Bool.false_and]; rfl, Below.refl _ _⟩
    · have hM' : Hid (may (nt s) = okl (nt s)) := by show may (nt s) = _; rw [hM.out, decide_eq_true (p := 1 ≤ s.size) (by omega), decide_eq_true (p := s.size ≤ 64) (by omega), Bool.true_and, Bool.true_and]
      clear hM
      go_enter Tryd.func12, Tryd.ntmps12
      go_wp2
      go_loopw [] (fun w' => ∃ pos : Nat, w' = w.iter s pos ∧ pos ≤ s.size ∧ okl ((nt s).drop pos) = okl (nt s)) (fun w' => s.size - w'.iterPos w.heap.size)
      case atStart => exact ⟨0, rfl, by omega, rfl⟩
      case round =>
        obtain ⟨pos, rfl, hle, hok⟩ := hrel
        by_cases hp : pos < s.size
        · have hnx : ∀ ty, (Instr.next (.pointer (some ⟨w.heap.size, 0, none⟩)) true ty).run Tryd.prog (w.iter s pos) = _ := fun ty => run_next_any w s pos ty hp
          by_cases b1 : ((Utf8.decode s pos).1 : Int) < 32
          · have hb : bad s pos := .inl (by omega)
            have hk := ok_bad hp hb
            go_wp2
            go_ret
            exact ⟨by rw [hM'.out, ← hok, hk]; rfl, (Below.refl _ _).alloc (Nat.le_refl _) _⟩
          · by_cases b2 : ((Utf8.decode s pos).1 : Int) = 127
            · have hb : bad s pos := .inr (.inl (by omega))
              have hk := ok_bad hp hb
              go_wp2
              go_ret
              exact ⟨by rw [hM'.out, ← hok, hk]; rfl, (Below.refl _ _).alloc (Nat.le_refl _) _⟩
            · cases b3 : stray (s.extract pos s.size) ((Utf8.decode s pos).1 : Int)
              · have hb : ¬ bad s pos := fun h => by
                  rcases h with h | h | h
                  · omega
                  · omega
                  · rw [b3] at h; cases h
                obtain ⟨k1, k2, k3⟩ := ok_good hp hb
                go_wp2_with (go_at_call 30; refine (stray_any _ _ _).mono ?_; rintro e w' ⟨rfl, rfl⟩; rw [b3])
                go_roundw
                case rel => exact ⟨_, rfl, k3, k1.symm.trans hok⟩
                case measure => simp; omega
              · have hb : bad s pos := .inr (.inr b3)
                have hk := ok_bad hp hb
                go_wp2_with (go_at_call 30; refine (stray_any _ _ _).mono ?_; rintro e w' ⟨rfl, rfl⟩; rw [b3])
                go_ret
                exact ⟨by rw [hM'.out, ← hok, hk]; rfl, (Below.refl _ _).alloc (Nat.le_refl _) _⟩
        · have hnx : ∀ ty, (Instr.next (.pointer (some ⟨w.heap.size, 0, none⟩)) true ty).run Tryd.prog (w.iter s pos) = _ := fun ty => run_next_end w s pos ty hp
          go_wp2
          go_ret
          refine ⟨?_, (Below.refl _ _).alloc (Nat.le_refl _) _⟩
          rw [List.drop_of_length_le (by rw [nt_len]; omega)] at hok
          rw [hM'.out, ← hok]; rfl
end Go.Proofs.YtpeieagfndggbaaDoor
