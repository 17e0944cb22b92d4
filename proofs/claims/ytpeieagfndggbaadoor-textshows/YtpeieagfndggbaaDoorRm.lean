/-
  The walk of the document's May. No conditions.
-/
import Derived.Test.YtpeieagfndggbaaDoorRf
import Derived.Test.YtpeieagfndggbaaDoorMay
namespace Go.Proofs.YtpeieagfndggbaaDoor
open Go.RowKit Tx

theorem bad_byte {s : ByteArray} {P : Nat} (hP : P < s.size) (h : sz ((nt s).drop P) = 0 ∨ (s[P]'hP).toNat < 32 ∨ (s[P]'hP).toNat = 127) : okl ((nt s).drop P) = false := by
  have h2 : P < (nt s).length := by rw [nt_len]; exact hP
  have e := byte_get hP
  rw [List.getElem?_eq_getElem h2] at e
  have e := Option.some.inj e
  rw [List.drop_eq_getElem_cons h2] at h ⊢
  rw [e] at h ⊢
  rw [okl_cons, if_pos h]
theorem good_byte {s : ByteArray} {P : Nat} (hP : P < s.size) (h : ¬ (sz ((nt s).drop P) = 0 ∨ (s[P]'hP).toNat < 32 ∨ (s[P]'hP).toNat = 127)) : okl ((nt s).drop P) = okl ((nt s).drop (P + sz ((nt s).drop P))) ∧ P + sz ((nt s).drop P) ≤ s.size := by
  have h2 : P < (nt s).length := by rw [nt_len]; exact hP
  have hl := sz_le ((nt s).drop P)
  rw [List.length_drop, nt_len] at hl
  refine ⟨?_, by omega⟩
  rw [← List.drop_drop]
  have e := byte_get hP
  rw [List.getElem?_eq_getElem h2] at e
  have e := Option.some.inj e
  rw [List.drop_eq_getElem_cons h2] at h ⊢
  rw [e] at h ⊢
  conv => lhs; rw [okl_cons]
  rw [if_neg h]
set_option maxRecDepth 1000000 in
theorem rmay_any (s : ByteArray) (w : World) : Calls Tryd.prog 13 #[.string s] w fun e w' => e = .returned (.bool (may (nt s))) ∧ w' = w := by
  have hM : Hid (may (nt s) = (decide (1 ≤ s.size) && decide (s.size ≤ 64) && okl (nt s))) := by show may (nt s) = _; unfold may; rw [nt_len]
  by_cases h1 : s.size < 1
  · go_enter Tryd.func13, Tryd.ntmps13
    go_wp2
    go_ret
    exact ⟨by rw [hM.out, decide_eq_false (p := 1 ≤ s.size) (by omega), Bool.false_and, Bool.false_and]; rfl, rfl⟩
  · by_cases h2 : s.size > 64
    · go_enter Tryd.func13, Tryd.ntmps13
      go_wp2
      go_ret
      exact ⟨by rw [hM.out, decide_eq_false (p := s.size ≤ 64) (by omega), Bool.and_false, Bool.false_and]; rfl, rfl⟩
    · have hM' : Hid (may (nt s) = okl (nt s)) := by show may (nt s) = _; rw [hM.out, decide_eq_true (p := 1 ≤ s.size) (by omega), decide_eq_true (p := s.size ≤ 64) (by omega), Bool.true_and, Bool.true_and]
      clear hM
      go_enter Tryd.func13, Tryd.ntmps13
      go_wp2
      go_loop [3] (fun x => ∃ P : Nat, x = .int .i64 (P : Int) ∧ P ≤ s.size ∧ Hid (okl ((nt s).drop P) = okl (nt s))) (fun x => s.size - (intOf x).toNat)
      case atStart => exact ⟨0, rfl, by omega, rfl⟩
      case round =>
        obtain ⟨P, rfl, hle, hok⟩ := hrel
        by_cases hp : P < s.size
        · have HS := Lib.hid (size_any s P w hp (by omega))
          have i0 : (0 : Int) ≤ (P : Int) := by omega
          have i1 : (P : Int) < (s.size : Int) := by omega
          have hbb := fun h => Lib.hid (bad_byte hp h)
          have hgg := fun h => Lib.hid (good_byte hp h)
          generalize hZ : sz ((nt s).drop P) = Z at *
          clear hZ
          by_cases c0 : Z = 0
          · have hf := hbb (.inl c0)
            have q0 : ((Z : Int) == 0) = true := beq_iff_eq.2 (by omega)
            go_wp2_with (go_at_call 31; refine HS.out.mono ?_; rintro e w' ⟨rfl, rfl⟩)
            go_ret
            exact ⟨by rw [hM'.out, ← hok.out, hf.out]; rfl, rfl⟩
          · have q0 : ((Z : Int) == 0) = false := beq_eq_false_iff_ne.2 (by omega)
            by_cases c1 : (s[P]'hp).toNat < 32
            · have hf := hbb (.inr (.inl c1))
              have q1 : (((s[P]'hp).toNat : Nat) : Int) < 32 := by omega
              go_wp2_with (go_at_call 31; refine HS.out.mono ?_; rintro e w' ⟨rfl, rfl⟩)
              go_ret
              exact ⟨by rw [hM'.out, ← hok.out, hf.out]; rfl, rfl⟩
            · have q1 : ¬ (((s[P]'hp).toNat : Nat) : Int) < 32 := by omega
              by_cases c2 : (s[P]'hp).toNat = 127
              · have hf := hbb (.inr (.inr c2))
                have q2 : ((((s[P]'hp).toNat : Nat) : Int) == 127) = true := beq_iff_eq.2 (by omega)
                clear c2
                go_wp2_with (go_at_call 31; refine HS.out.mono ?_; rintro e w' ⟨rfl, rfl⟩)
                go_ret
                exact ⟨by rw [hM'.out, ← hok.out, hf.out]; rfl, rfl⟩
              · have hg := hgg (by rintro (h | h | h) <;> contradiction)
                have q2 : ((((s[P]'hp).toNat : Nat) : Int) == 127) = false := beq_eq_false_iff_ne.2 (by omega)
                have hle2 := hg.out.2
                go_wp2_with (go_at_call 31; refine HS.out.mono ?_; rintro e w' ⟨rfl, rfl⟩)
                go_round
                case rel => exact ⟨P + Z, by go_num, hle2, hg.out.1.symm.trans hok.out⟩
                case measure => simp [intOf]; omega
        · have i1 : ¬ (P : Int) < (s.size : Int) := by omega
          go_wp2
          go_ret
          have hk := hok.out
          rw [List.drop_of_length_le (by rw [nt_len]; omega)] at hk
          exact ⟨by rw [hM'.out, ← hk]; rfl, rfl⟩
end Go.Proofs.YtpeieagfndggbaaDoor
