/-
  The walks of the library's Cut at a space, of both Words, of the program's isTyped, and which word a text is. Conditions: of Cut, fewer than 2^62 bytes.
-/
import Derived.Test.YtpeieagfndggbaaDoorDig
import Derived.Deep.QuietTactic
import Derived.BigQuiet
namespace Go.Proofs.YtpeieagfndggbaaDoor
open Go.RowKit Tx

theorem ib : ∀ (l : List UInt8), (Lib.indexByte l 32 = -1 ∧ (l.map UInt8.toNat).takeWhile nots = l.map UInt8.toNat) ∨ ∃ i : Nat, Lib.indexByte l 32 = i ∧ i < l.length ∧ (l.map UInt8.toNat).takeWhile nots = (l.map UInt8.toNat).take i
  | [] => .inl ⟨rfl, rfl⟩
  | b :: l => by
    have e : Lib.indexByte (b :: l) 32 = if b == 32 then 0 else if Lib.indexByte l 32 == -1 then -1 else Lib.indexByte l 32 + 1 := rfl
    by_cases h : b = 32
    · right
      refine ⟨0, by rw [e, if_pos (by simpa using h)]; try rfl, by simp, ?_⟩
      rw [h]; rfl
    · have hn : nots b.toNat = true := by
        unfold nots
        rw [decide_eq_true_eq]
        intro q
        exact h (UInt8.toNat_inj.1 q)
      rw [e, if_neg (by simpa using h), List.map_cons, List.takeWhile_cons, hn]
      rcases ib l with ⟨h1, h2⟩ | ⟨i, h1, h2, h3⟩
      · left
        rw [h1]
        refine ⟨rfl, ?_⟩
        simp only [if_true]
        rw [h2]
      · right
        refine ⟨i + 1, ?_, by simpa using h2, ?_⟩
        · rw [h1, if_neg (by rw [beq_iff_eq]; omega)]; omega
        · simp only [if_true]
          rw [h3]; try rfl
theorem cut_in (s : ByteArray) (w : World) (hs : s.size ≤ 4611686018427387904) : Calls Tryd.prog 49 #[.string s, .string ⟨#[32]⟩] w fun e w' => (∃ a b f, e = .returned (.tuple #[.string a, .string b, .bool f]) ∧ nt a = (nt s).takeWhile nots) ∧ Below w.heap.size w w' := by
  have HI := Lib.hid (stringslite_Index_one s 32 w)
  rcases ib s.data.toList with ⟨h1, h2⟩ | ⟨i, h1, h2, h3⟩
  · rw [h1] at HI
    go_enter Tryd.func49, Tryd.ntmps49
    go_wp2_with (go_at_call 56; refine HI.out.mono ?_; rintro e w' ⟨rfl, rfl⟩)
    go_ret3
    exact ⟨⟨s, _, _, rfl, h2.symm⟩, Below.refl _ _⟩
  · rw [h1] at HI
    have h2' : i < s.size := by simpa using h2
    have c1 : (0 : Int) ≤ (i : Int) := by omega
    have c2 : (i : Int) ≤ (s.size : Int) := by omega
    have c3 : (0 : Int) ≤ (i : Int) + 1 := by omega
    have c4 : (i : Int) + 1 ≤ (s.size : Int) := by omega
    go_enter Tryd.func49, Tryd.ntmps49
    go_wp2_with (go_at_call 56; refine HI.out.mono ?_; rintro e w' ⟨rfl, rfl⟩)
    go_quiet (fail)
    go_wp2
    go_ret3
    exact ⟨⟨s.extract 0 i, _, _, rfl, by rw [nt_extract, List.drop_zero]; exact h3.symm⟩, ⟨rfl, rfl, rfl, Nat.le_refl _, fun _ _ => rfl⟩⟩
theorem cut_any (s : ByteArray) (w : World) (hs : s.size ≤ 4611686018427387904) : Calls Tryd.prog 38 #[.string s, .string ⟨#[32]⟩] w fun e w' => (∃ a b f, e = .returned (.tuple #[.string a, .string b, .bool f]) ∧ nt a = (nt s).takeWhile nots) ∧ Below w.heap.size w w' := by
  have HI := Lib.hid (cut_in s w hs)
  go_enter Tryd.func38, Tryd.ntmps38
  go_wp2_with fail
  refine HI.out.mono ?_
  rintro e w1 ⟨⟨a, b, f, rfl, ha⟩, hb⟩
  go_wp2
  go_ret3
  exact ⟨⟨a, b, f, rfl, ha⟩, hb⟩

/-- The words, as texts. -/
def W0 : ByteArray := ⟨#[110, 111, 112]⟩
def W1 : ByteArray := ⟨#[111, 112, 101, 110]⟩
def W2 : ByteArray := ⟨#[106, 111, 105, 110]⟩
def W3 : ByteArray := ⟨#[108, 101, 97, 118, 101]⟩
def W4 : ByteArray := ⟨#[112, 111, 115, 116]⟩
def W5 : ByteArray := ⟨#[101, 100, 105, 116]⟩
def W6 : ByteArray := ⟨#[100, 101, 108, 101, 116, 101]⟩
def W7 : ByteArray := ⟨#[102, 101, 116, 99, 104]⟩
def wds : List ByteArray := [W0, W1, W2, W3, W4, W5, W6, W7]
theorem words_any (w : World) : Calls Tryd.prog 16 #[] w fun e w' => e = .returned (.slice (some ⟨w.heap.size, 0, none⟩) 8 8) ∧ w' = w.alloc (.cells #[.string W0, .string W1, .string W2, .string W3, .string W4, .string W5, .string W6, .string W7] 9) := by
  go_enter Tryd.func16, Tryd.ntmps16
  go_wp2
  go_ret
  exact ⟨rfl, rfl⟩
theorem rwords_any (w : World) : Calls Tryd.prog 17 #[] w fun e w' => e = .returned (.slice (some ⟨w.heap.size, 0, none⟩) 8 8) ∧ w' = w.alloc (.cells #[.string W0, .string W1, .string W2, .string W3, .string W4, .string W5, .string W6, .string W7] 9) := by
  go_enter Tryd.func17, Tryd.ntmps17
  go_wp2
  go_ret
  exact ⟨rfl, rfl⟩
theorem typed_any (k : Int) (w : World) : Calls Tryd.prog 40 #[.int .i64 k] w fun e w' => e = .returned (.bool (decide (1 ≤ k) && decide (k ≤ 7))) ∧ w' = w := by
  by_cases h1 : 0 < k
  · by_cases h2 : k < 8
    · have e : Hid ((decide (1 ≤ k) && decide (k ≤ 7)) = true) := by show _ = true; rw [decide_eq_true (by omega), decide_eq_true (by omega)]; rfl
      go_enter Tryd.func40, Tryd.ntmps40
      go_wp2
      go_ret
      exact ⟨by rw [e.out]; rfl, rfl⟩
    · have e : Hid ((decide (1 ≤ k) && decide (k ≤ 7)) = false) := by show _ = false; rw [decide_eq_false (p := k ≤ 7) (by omega), Bool.and_false]
      go_enter Tryd.func40, Tryd.ntmps40
      go_wp2
      go_ret
      exact ⟨by rw [e.out]; rfl, rfl⟩
  · have e : Hid ((decide (1 ≤ k) && decide (k ≤ 7)) = false) := by show _ = false; rw [decide_eq_false (p := 1 ≤ k) (by omega), Bool.false_and]
    go_enter Tryd.func40, Tryd.ntmps40
    go_wp2
    go_ret
    exact ⟨by rw [e.out]; rfl, rfl⟩
theorem wd_eq {x W : ByteArray} {k : Nat} (h : nt W = wd k) : (wd k = nt x) = (W = x) := by
  rw [← h]
  exact propext ⟨fun e => nt_inj e, fun e => by rw [e]⟩
theorem kind_eq (x : ByteArray) : kindOf (nt x) = if W1 = x then 1 else if W2 = x then 2 else if W3 = x then 3 else if W4 = x then 4 else if W5 = x then 5 else if W6 = x then 6 else if W7 = x then 7 else 0 := by
  have e1 : nt W1 = wd 1 := rfl
  have e2 : nt W2 = wd 2 := rfl
  have e3 : nt W3 = wd 3 := rfl
  have e4 : nt W4 = wd 4 := rfl
  have e5 : nt W5 = wd 5 := rfl
  have e6 : nt W6 = wd 6 := rfl
  have e7 : nt W7 = wd 7 := rfl
  unfold kindOf
  simp only [wd_eq e1, wd_eq e2, wd_eq e3, wd_eq e4, wd_eq e5, wd_eq e6, wd_eq e7]
theorem idx_eq (x : ByteArray) : Lib.idxOfS wds x = if W0 = x then 0 else if W1 = x then 1 else if W2 = x then 2 else if W3 = x then 3 else if W4 = x then 4 else if W5 = x then 5 else if W6 = x then 6 else if W7 = x then 7 else -1 := rfl
theorem idx_kind (x : ByteArray) : (kindOf (nt x) ≠ 0 → Lib.idxOfS wds x = kindOf (nt x)) ∧ (kindOf (nt x) = 0 → Lib.idxOfS wds x ≤ 0) := by
  rw [kind_eq, idx_eq]
  by_cases h0 : W0 = x
  · subst h0
    exact ⟨fun q => absurd (by decide) q, fun _ => by decide⟩
  · rw [if_neg h0]
    repeat' split
    all_goals exact ⟨fun q => by first | rfl | (exact absurd rfl q), fun q => by first | (cases q; done) | decide⟩
end Go.Proofs.YtpeieagfndggbaaDoor
