/-
  The walks of the document's follows, size and May. Conditions: at most 10^9 bytes; the place lies within the text.
-/
import Derived.Test.YtpeieagfndggbaaDoorMem
namespace Go.Proofs.YtpeieagfndggbaaDoor
open Go.RowKit Tx

theorem fo_all {k : Nat} {t : List Nat} : fo k t = true ↔ ∀ j, j < k → ∃ x, t[j]? = some x ∧ isc x = true := by
  induction k generalizing t with
  | zero => exact ⟨fun _ j hj => by omega, fun _ => rfl⟩
  | succ k ih =>
    cases t with
    | nil =>
      constructor
      · intro h; cases h
      · intro h
        obtain ⟨x, hx, -⟩ := h 0 (by omega)
        cases hx
    | cons c t =>
      show (isc c && fo k t) = true ↔ _
      rw [Bool.and_eq_true, ih]
      constructor
      · rintro ⟨h1, h2⟩ j hj
        cases j with
        | zero => exact ⟨c, rfl, h1⟩
        | succ j => obtain ⟨x, hx, hp⟩ := h2 j (by omega); exact ⟨x, by simpa using hx, hp⟩
      · intro h
        refine ⟨?_, fun j hj => ?_⟩
        · obtain ⟨x, hx, hp⟩ := h 0 (by omega)
          obtain rfl : c = x := by simpa using hx
          exact hp
        · obtain ⟨x, hx, hp⟩ := h (j + 1) (by omega)
          exact ⟨x, by simpa using hx, hp⟩
theorem byte_get {s : ByteArray} {p : Nat} (h : p < s.size) : (nt s)[p]? = some (s[p]'h).toNat := by
  have h2 : p < (nt s).length := by rw [nt_len]; exact h
  have e := nt_get s p
  rw [List.getD_eq_getElem?_getD, List.getElem?_eq_getElem h2, Option.getD_some] at e
  have := get_at s p h
  rw [Nat.add_zero] at this
  rw [this] at e
  rw [List.getElem?_eq_getElem h2, e]
set_option maxRecDepth 100000 in
theorem follows_any (s : ByteArray) (a k : Nat) (w : World) (ha : a ≤ 1000000000) (hk : k ≤ 3) : Calls Tryd.prog 44 #[.string s, .int .i64 a, .int .i64 k] w fun e w' => e = .returned (.bool (fo k ((nt s).drop a))) ∧ w' = w := by
  have hout : ∀ q, q < k → (∀ x, ((nt s).drop a)[q]? = some x → isc x = false) → Hid (fo k ((nt s).drop a) = false) := by
    intro q hq h
    show _ = false
    rw [← Bool.not_eq_true]
    intro hf
    obtain ⟨x, hx, hp⟩ := fo_all.1 hf q hq
    rw [h x hx] at hp
    cases hp
  go_enter Tryd.func44, Tryd.ntmps44
  go_wp2
  go_loop [7] (fun x => ∃ P : Nat, x = .int .i64 (P : Int) ∧ a ≤ P ∧ P ≤ a + k ∧ Hid (∀ q, q < P - a → ∃ y, ((nt s).drop a)[q]? = some y ∧ isc y = true)) (fun x => a + k - (intOf x).toNat)
  case atStart => exact ⟨a, rfl, Nat.le_refl _, by omega, fun q hq => by omega⟩
  case round =>
    obtain ⟨P, rfl, p1, p2, hall⟩ := hrel
    by_cases hlt : P < a + k
    · have i1 : (P : Int) < (a : Int) + (k : Int) := by omega
      by_cases hin : P < s.size
      · have i2 : ¬ ((s.size : Int) ≤ (P : Int)) := by omega
        have i3 : (P : Int) < (s.size : Int) := by omega
        have i4 : (0 : Int) ≤ (P : Int) := by omega
        have hb := byte_get hin
        have hq : ((nt s).drop a)[P - a]? = some (s[P]'hin).toNat := by rw [List.getElem?_drop, show a + (P - a) = P by omega]; exact hb
        by_cases h1 : (((s[P]'hin).toNat : Nat) : Int) < 128
        · have hf := hout (P - a) (by omega) (fun x hx => by
            rw [hq] at hx
            cases hx
            unfold isc
            rw [decide_eq_false (by omega), Bool.false_and])
          go_wp2
          go_ret
          exact ⟨by rw [hf.out]; rfl, rfl⟩
        · by_cases h2 : 191 < (((s[P]'hin).toNat : Nat) : Int)
          · have hf := hout (P - a) (by omega) (fun x hx => by
              rw [hq] at hx
              cases hx
              unfold isc
              rw [decide_eq_false (p := (s[P]'hin).toNat ≤ 191) (by omega), Bool.and_false])
            go_wp2
            go_ret
            exact ⟨by rw [hf.out]; rfl, rfl⟩
          · have hc : isc (s[P]'hin).toNat = true := by unfold isc; rw [decide_eq_true (by omega), decide_eq_true (by omega)]; rfl
            go_wp2
            go_round
            case rel =>
              refine ⟨P + 1, by go_num, by omega, by omega, fun q hq' => ?_⟩
              by_cases hqq : q < P - a
              · exact hall.out q hqq
              · obtain rfl : q = P - a := by omega
                exact ⟨_, hq, hc⟩
            case measure => simp [intOf]; omega
      · have i2 : (s.size : Int) ≤ (P : Int) := by omega
        have hf := hout (P - a) (by omega) (fun x hx => by
          rw [List.getElem?_drop, List.getElem?_eq_none (by rw [nt_len]; omega)] at hx
          cases hx)
        go_wp2
        go_ret
        exact ⟨by rw [hf.out]; rfl, rfl⟩
    · have i1 : ¬ (P : Int) < (a : Int) + (k : Int) := by omega
      have hf : Hid (fo k ((nt s).drop a) = true) := fo_all.2 (fun q hq => hall.out q (by omega))
      go_wp2
      go_ret
      exact ⟨by rw [hf.out]; rfl, rfl⟩
set_option maxHeartbeats 4000000 in
set_option maxRecDepth 100000 in
theorem size_any (s : ByteArray) (P : Nat) (w : World) (hP : P < s.size) (hs : s.size ≤ 1000000) : Calls Tryd.prog 31 #[.string s, .int .i64 P] w fun e w' => e = .returned (.int .i64 (sz ((nt s).drop P))) ∧ w' = w := by
  obtain ⟨C, hC⟩ : ∃ C : Nat, C = (s[P]'hP).toNat := ⟨_, rfl⟩
  have hc8 : C < 256 := by rw [hC]; exact UInt8.toNat_lt _
  have hcI : (((s[P]'hP).toNat : Nat) : Int) = C := by rw [hC]
  obtain ⟨t, ht⟩ : ∃ t, t = (nt s).drop (P + 1) := ⟨_, rfl⟩
  have hd : (nt s).drop P = C :: t := by
    rw [ht, hC]
    have h2 : P < (nt s).length := by rw [nt_len]; exact hP
    rw [List.drop_eq_getElem_cons h2]
    have e := byte_get hP
    rw [List.getElem?_eq_getElem h2] at e
    rw [Option.some.inj e]
  have eP : (((P + 1 : Nat)) : Int) = (P : Int) + 1 := by omega
  have HF1 : Hid (Calls Tryd.prog 44 #[.string s, .int .i64 ((P : Int) + 1), .int .i64 1] w fun e w' => e = .returned (.bool (fo 1 t)) ∧ w' = w) := by
    have := follows_any s (P + 1) 1 w (by omega) (by omega)
    rw [eP, ← ht] at this
    exact this
  have HF2 : Hid (Calls Tryd.prog 44 #[.string s, .int .i64 ((P : Int) + 1), .int .i64 2] w fun e w' => e = .returned (.bool (fo 2 t)) ∧ w' = w) := by
    have := follows_any s (P + 1) 2 w (by omega) (by omega)
    rw [eP, ← ht] at this
    exact this
  have HF3 : Hid (Calls Tryd.prog 44 #[.string s, .int .i64 ((P : Int) + 1), .int .i64 3] w fun e w' => e = .returned (.bool (fo 3 t)) ∧ w' = w) := by
    have := follows_any s (P + 1) 3 w (by omega) (by omega)
    rw [eP, ← ht] at this
    exact this
  have i0 : (0 : Int) ≤ (P : Int) := by omega
  have i1 : (P : Int) < (s.size : Int) := by omega
  have hz : Hid (sz ((nt s).drop P) = sz (C :: t)) := by show _ = _; rw [hd]
  have hlen : t.length = s.size - (P + 1) := by rw [ht, List.length_drop, nt_len]
  have hgd : ∀ h : P + 1 < s.size, t.getD 0 0 = (s[P + 1]'h).toNat := by
    intro h
    have e := byte_get h
    rw [ht, List.getD_eq_getElem?_getD, List.getElem?_drop]
    show ((nt s)[P + 1]?).getD 0 = _
    rw [e, Option.getD_some]
  rw [sz_cons] at hz
  clear hC hd ht
  by_cases h1 : C < 128
  · have a0 : (C : Int) < 128 := by omega
    have a1 : ¬ ((194 : Int) ≤ (C : Int)) := by omega
    have a2 : (C : Int) ≤ 223 := by omega
    have a3 : ¬ ((224 : Int) ≤ (C : Int)) := by omega
    have a4 : (C : Int) ≤ 239 := by omega
    have a5 : ¬ ((240 : Int) ≤ (C : Int)) := by omega
    have a6 : (C : Int) ≤ 244 := by omega
    rw [if_pos h1] at hz
    go_enter Tryd.func31, Tryd.ntmps31
    go_wp2_with (first
      | (go_at_call 44; with_reducible refine HF1.out.mono ?_; rintro e w' ⟨rfl, rfl⟩)
      | (go_at_call 44; with_reducible refine HF2.out.mono ?_; rintro e w' ⟨rfl, rfl⟩)
      | (go_at_call 44; with_reducible refine HF3.out.mono ?_; rintro e w' ⟨rfl, rfl⟩))
    go_ret
    exact ⟨by rw [hz.out]; rfl, rfl⟩
  by_cases h2 : C < 194
  · have a0 : ¬ ((C : Int) < 128) := by omega
    have a1 : ¬ ((194 : Int) ≤ (C : Int)) := by omega
    have a2 : (C : Int) ≤ 223 := by omega
    have a3 : ¬ ((224 : Int) ≤ (C : Int)) := by omega
    have a4 : (C : Int) ≤ 239 := by omega
    have a5 : ¬ ((240 : Int) ≤ (C : Int)) := by omega
    have a6 : (C : Int) ≤ 244 := by omega
    rw [if_neg (by omega), if_neg (by omega), if_neg (by omega), if_neg (by omega)] at hz
    go_enter Tryd.func31, Tryd.ntmps31
    go_wp2_with (first
      | (go_at_call 44; with_reducible refine HF1.out.mono ?_; rintro e w' ⟨rfl, rfl⟩)
      | (go_at_call 44; with_reducible refine HF2.out.mono ?_; rintro e w' ⟨rfl, rfl⟩)
      | (go_at_call 44; with_reducible refine HF3.out.mono ?_; rintro e w' ⟨rfl, rfl⟩))
    go_ret
    exact ⟨by rw [hz.out]; rfl, rfl⟩
  by_cases h3 : C < 224
  · have a0 : ¬ ((C : Int) < 128) := by omega
    have a1 : (194 : Int) ≤ (C : Int) := by omega
    have a2 : (C : Int) ≤ 223 := by omega
    have a3 : ¬ ((224 : Int) ≤ (C : Int)) := by omega
    have a4 : (C : Int) ≤ 239 := by omega
    have a5 : ¬ ((240 : Int) ≤ (C : Int)) := by omega
    have a6 : (C : Int) ≤ 244 := by omega
    cases f1 : fo 1 t
    · rw [f1] at HF1
      rw [if_neg (by omega), if_neg (by rw [f1]; simp), if_neg (by omega), if_neg (by omega)] at hz
      go_enter Tryd.func31, Tryd.ntmps31
      go_wp2_with (first
        | (go_at_call 44; with_reducible refine HF1.out.mono ?_; rintro e w' ⟨rfl, rfl⟩)
        | (go_at_call 44; with_reducible refine HF2.out.mono ?_; rintro e w' ⟨rfl, rfl⟩)
        | (go_at_call 44; with_reducible refine HF3.out.mono ?_; rintro e w' ⟨rfl, rfl⟩))
      go_ret
      exact ⟨by rw [hz.out]; rfl, rfl⟩
    · rw [f1] at HF1
      rw [if_neg (by omega), if_pos ⟨by omega, by omega, f1⟩] at hz
      go_enter Tryd.func31, Tryd.ntmps31
      go_wp2_with (first
        | (go_at_call 44; with_reducible refine HF1.out.mono ?_; rintro e w' ⟨rfl, rfl⟩)
        | (go_at_call 44; with_reducible refine HF2.out.mono ?_; rintro e w' ⟨rfl, rfl⟩)
        | (go_at_call 44; with_reducible refine HF3.out.mono ?_; rintro e w' ⟨rfl, rfl⟩))
      go_ret
      exact ⟨by rw [hz.out]; rfl, rfl⟩
  by_cases h4 : C < 240
  · have a0 : ¬ ((C : Int) < 128) := by omega
    have a1 : (194 : Int) ≤ (C : Int) := by omega
    have a2 : ¬ ((C : Int) ≤ 223) := by omega
    have a3 : (224 : Int) ≤ (C : Int) := by omega
    have a4 : (C : Int) ≤ 239 := by omega
    have a5 : ¬ ((240 : Int) ≤ (C : Int)) := by omega
    have a6 : (C : Int) ≤ 244 := by omega
    cases f2 : fo 2 t
    · rw [f2] at HF2
      rw [if_neg (by omega), if_neg (by omega), if_neg (by rw [f2]; simp), if_neg (by omega)] at hz
      go_enter Tryd.func31, Tryd.ntmps31
      go_wp2_with (first
        | (go_at_call 44; with_reducible refine HF1.out.mono ?_; rintro e w' ⟨rfl, rfl⟩)
        | (go_at_call 44; with_reducible refine HF2.out.mono ?_; rintro e w' ⟨rfl, rfl⟩)
        | (go_at_call 44; with_reducible refine HF3.out.mono ?_; rintro e w' ⟨rfl, rfl⟩))
      go_ret
      exact ⟨by rw [hz.out]; rfl, rfl⟩
    · rw [f2] at HF2
      rw [if_neg (by omega), if_neg (by omega), if_pos ⟨by omega, by omega, f2⟩] at hz
      have hP1 : P + 1 < s.size := by have := fo_len f2; omega
      have i2 : (0 : Int) ≤ (P : Int) + 1 := by omega
      have i3 : (P : Int) + 1 < (s.size : Int) := by omega
      have hg := hgd hP1
      obtain ⟨D, hD⟩ : ∃ D : Nat, D = (s[P + 1]'hP1).toNat := ⟨_, rfl⟩
      have hdI : (((s[P + 1]'hP1).toNat : Nat) : Int) = D := by rw [hD]
      rw [hg, ← hD] at hz
      clear hD hg hgd
      by_cases e1 : C = 224
      · have b1 : ((C : Int) == 224) = true := beq_iff_eq.2 (by omega)
        have b2 : ((C : Int) == 237) = false := beq_eq_false_iff_ne.2 (by omega)
        by_cases e2 : D < 160
        · have b3 : (D : Int) < 160 := by omega
          rw [if_pos (.inl ⟨e1, e2⟩)] at hz
          go_enter Tryd.func31, Tryd.ntmps31
          go_wp2_with (first
            | (go_at_call 44; with_reducible refine HF1.out.mono ?_; rintro e w' ⟨rfl, rfl⟩)
            | (go_at_call 44; with_reducible refine HF2.out.mono ?_; rintro e w' ⟨rfl, rfl⟩)
            | (go_at_call 44; with_reducible refine HF3.out.mono ?_; rintro e w' ⟨rfl, rfl⟩))
          go_ret
          exact ⟨by rw [hz.out]; rfl, rfl⟩
        · have b3 : ¬ (D : Int) < 160 := by omega
          rw [if_neg (by omega)] at hz
          go_enter Tryd.func31, Tryd.ntmps31
          go_wp2_with (first
            | (go_at_call 44; with_reducible refine HF1.out.mono ?_; rintro e w' ⟨rfl, rfl⟩)
            | (go_at_call 44; with_reducible refine HF2.out.mono ?_; rintro e w' ⟨rfl, rfl⟩)
            | (go_at_call 44; with_reducible refine HF3.out.mono ?_; rintro e w' ⟨rfl, rfl⟩))
          go_ret
          exact ⟨by rw [hz.out]; rfl, rfl⟩
      · have b1 : ((C : Int) == 224) = false := beq_eq_false_iff_ne.2 (by omega)
        by_cases e3 : C = 237
        · have b2 : ((C : Int) == 237) = true := beq_iff_eq.2 (by omega)
          by_cases e2 : 159 < D
          · have b3 : 159 < (D : Int) := by omega
            rw [if_pos (.inr ⟨e3, e2⟩)] at hz
            go_enter Tryd.func31, Tryd.ntmps31
            go_wp2_with (first
              | (go_at_call 44; with_reducible refine HF1.out.mono ?_; rintro e w' ⟨rfl, rfl⟩)
              | (go_at_call 44; with_reducible refine HF2.out.mono ?_; rintro e w' ⟨rfl, rfl⟩)
              | (go_at_call 44; with_reducible refine HF3.out.mono ?_; rintro e w' ⟨rfl, rfl⟩))
            go_ret
            exact ⟨by rw [hz.out]; rfl, rfl⟩
          · have b3 : ¬ 159 < (D : Int) := by omega
            rw [if_neg (by omega)] at hz
            go_enter Tryd.func31, Tryd.ntmps31
            go_wp2_with (first
              | (go_at_call 44; with_reducible refine HF1.out.mono ?_; rintro e w' ⟨rfl, rfl⟩)
              | (go_at_call 44; with_reducible refine HF2.out.mono ?_; rintro e w' ⟨rfl, rfl⟩)
              | (go_at_call 44; with_reducible refine HF3.out.mono ?_; rintro e w' ⟨rfl, rfl⟩))
            go_ret
            exact ⟨by rw [hz.out]; rfl, rfl⟩
        · have b2 : ((C : Int) == 237) = false := beq_eq_false_iff_ne.2 (by omega)
          rw [if_neg (by omega)] at hz
          go_enter Tryd.func31, Tryd.ntmps31
          go_wp2_with (first
            | (go_at_call 44; with_reducible refine HF1.out.mono ?_; rintro e w' ⟨rfl, rfl⟩)
            | (go_at_call 44; with_reducible refine HF2.out.mono ?_; rintro e w' ⟨rfl, rfl⟩)
            | (go_at_call 44; with_reducible refine HF3.out.mono ?_; rintro e w' ⟨rfl, rfl⟩))
          go_ret
          exact ⟨by rw [hz.out]; rfl, rfl⟩
  by_cases h5 : C < 245
  · have a0 : ¬ ((C : Int) < 128) := by omega
    have a1 : (194 : Int) ≤ (C : Int) := by omega
    have a2 : ¬ ((C : Int) ≤ 223) := by omega
    have a3 : (224 : Int) ≤ (C : Int) := by omega
    have a4 : ¬ ((C : Int) ≤ 239) := by omega
    have a5 : (240 : Int) ≤ (C : Int) := by omega
    have a6 : (C : Int) ≤ 244 := by omega
    cases f3 : fo 3 t
    · rw [f3] at HF3
      rw [if_neg (by omega), if_neg (by omega), if_neg (by omega), if_neg (by rw [f3]; simp)] at hz
      go_enter Tryd.func31, Tryd.ntmps31
      go_wp2_with (first
        | (go_at_call 44; with_reducible refine HF1.out.mono ?_; rintro e w' ⟨rfl, rfl⟩)
        | (go_at_call 44; with_reducible refine HF2.out.mono ?_; rintro e w' ⟨rfl, rfl⟩)
        | (go_at_call 44; with_reducible refine HF3.out.mono ?_; rintro e w' ⟨rfl, rfl⟩))
      go_ret
      exact ⟨by rw [hz.out]; rfl, rfl⟩
    · rw [f3] at HF3
      rw [if_neg (by omega), if_neg (by omega), if_neg (by omega), if_pos ⟨by omega, by omega, f3⟩] at hz
      have hP1 : P + 1 < s.size := by have := fo_len f3; omega
      have i2 : (0 : Int) ≤ (P : Int) + 1 := by omega
      have i3 : (P : Int) + 1 < (s.size : Int) := by omega
      have hg := hgd hP1
      obtain ⟨D, hD⟩ : ∃ D : Nat, D = (s[P + 1]'hP1).toNat := ⟨_, rfl⟩
      have hdI : (((s[P + 1]'hP1).toNat : Nat) : Int) = D := by rw [hD]
      rw [hg, ← hD] at hz
      clear hD hg hgd
      by_cases e1 : C = 240
      · have b1 : ((C : Int) == 240) = true := beq_iff_eq.2 (by omega)
        have b2 : ((C : Int) == 244) = false := beq_eq_false_iff_ne.2 (by omega)
        by_cases e2 : D < 144
        · have b3 : (D : Int) < 144 := by omega
          rw [if_pos (.inl ⟨e1, e2⟩)] at hz
          go_enter Tryd.func31, Tryd.ntmps31
          go_wp2_with (first
            | (go_at_call 44; with_reducible refine HF1.out.mono ?_; rintro e w' ⟨rfl, rfl⟩)
            | (go_at_call 44; with_reducible refine HF2.out.mono ?_; rintro e w' ⟨rfl, rfl⟩)
            | (go_at_call 44; with_reducible refine HF3.out.mono ?_; rintro e w' ⟨rfl, rfl⟩))
          go_ret
          exact ⟨by rw [hz.out]; rfl, rfl⟩
        · have b3 : ¬ (D : Int) < 144 := by omega
          rw [if_neg (by omega)] at hz
          go_enter Tryd.func31, Tryd.ntmps31
          go_wp2_with (first
            | (go_at_call 44; with_reducible refine HF1.out.mono ?_; rintro e w' ⟨rfl, rfl⟩)
            | (go_at_call 44; with_reducible refine HF2.out.mono ?_; rintro e w' ⟨rfl, rfl⟩)
            | (go_at_call 44; with_reducible refine HF3.out.mono ?_; rintro e w' ⟨rfl, rfl⟩))
          go_ret
          exact ⟨by rw [hz.out]; rfl, rfl⟩
      · have b1 : ((C : Int) == 240) = false := beq_eq_false_iff_ne.2 (by omega)
        by_cases e3 : C = 244
        · have b2 : ((C : Int) == 244) = true := beq_iff_eq.2 (by omega)
          by_cases e2 : 143 < D
          · have b3 : 143 < (D : Int) := by omega
            rw [if_pos (.inr ⟨e3, e2⟩)] at hz
            go_enter Tryd.func31, Tryd.ntmps31
            go_wp2_with (first
              | (go_at_call 44; with_reducible refine HF1.out.mono ?_; rintro e w' ⟨rfl, rfl⟩)
              | (go_at_call 44; with_reducible refine HF2.out.mono ?_; rintro e w' ⟨rfl, rfl⟩)
              | (go_at_call 44; with_reducible refine HF3.out.mono ?_; rintro e w' ⟨rfl, rfl⟩))
            go_ret
            exact ⟨by rw [hz.out]; rfl, rfl⟩
          · have b3 : ¬ 143 < (D : Int) := by omega
            rw [if_neg (by omega)] at hz
            go_enter Tryd.func31, Tryd.ntmps31
            go_wp2_with (first
              | (go_at_call 44; with_reducible refine HF1.out.mono ?_; rintro e w' ⟨rfl, rfl⟩)
              | (go_at_call 44; with_reducible refine HF2.out.mono ?_; rintro e w' ⟨rfl, rfl⟩)
              | (go_at_call 44; with_reducible refine HF3.out.mono ?_; rintro e w' ⟨rfl, rfl⟩))
            go_ret
            exact ⟨by rw [hz.out]; rfl, rfl⟩
        · have b2 : ((C : Int) == 244) = false := beq_eq_false_iff_ne.2 (by omega)
          rw [if_neg (by omega)] at hz
          go_enter Tryd.func31, Tryd.ntmps31
          go_wp2_with (first
            | (go_at_call 44; with_reducible refine HF1.out.mono ?_; rintro e w' ⟨rfl, rfl⟩)
            | (go_at_call 44; with_reducible refine HF2.out.mono ?_; rintro e w' ⟨rfl, rfl⟩)
            | (go_at_call 44; with_reducible refine HF3.out.mono ?_; rintro e w' ⟨rfl, rfl⟩))
          go_ret
          exact ⟨by rw [hz.out]; rfl, rfl⟩
  have a0 : ¬ ((C : Int) < 128) := by omega
  have a1 : (194 : Int) ≤ (C : Int) := by omega
  have a2 : ¬ ((C : Int) ≤ 223) := by omega
  have a3 : (224 : Int) ≤ (C : Int) := by omega
  have a4 : ¬ ((C : Int) ≤ 239) := by omega
  have a5 : (240 : Int) ≤ (C : Int) := by omega
  have a6 : ¬ ((C : Int) ≤ 244) := by omega
  rw [if_neg (by omega), if_neg (by omega), if_neg (by omega), if_neg (by omega)] at hz
  go_enter Tryd.func31, Tryd.ntmps31
  go_wp2_with (first
    | (go_at_call 44; with_reducible refine HF1.out.mono ?_; rintro e w' ⟨rfl, rfl⟩)
    | (go_at_call 44; with_reducible refine HF2.out.mono ?_; rintro e w' ⟨rfl, rfl⟩)
    | (go_at_call 44; with_reducible refine HF3.out.mono ?_; rintro e w' ⟨rfl, rfl⟩))
  go_ret
  exact ⟨by rw [hz.out]; rfl, rfl⟩
end Go.Proofs.YtpeieagfndggbaaDoor
