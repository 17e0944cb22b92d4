/-
  The walk of the law RegainDone: what somebody who counts has committed is done, nothing else is told as done; with too few there is nothing to do but to wait. No conditions.
-/
import Derived.Test.YtgmfjoegfbaebaaRgMt
import Derived.Deep.RegionHeld3
import Derived.Deep.QuietTactic
namespace Go.Proofs.Ytgmfjoegfbaebaa.Rg
open Go.RowKit In
set_option linter.unusedVariables false
attribute [local go_sem ↓ high] Ba.eq23 Ba.guard23 Ba.neq23 Ba.guard23n eqc guardc neqc guardcn

theorem dn_snoc (l : List Rp) (x : Rp) : (dn (l ++ [x])).isSome = ((dn l).isSome || (x.r.st == 3)) := by
  unfold dn
  rw [List.find?_append]
  rcases h : l.find? (fun x => decide (x.r.st = 3)) with _ | y
  · by_cases hx : x.r.st = 3 <;> simp [hx]
  · rw [h]
    rfl
set_option maxHeartbeats 1600000 in
theorem ldone_any (n o : Int) (A : Option Addr) (c : Nat) (L : List Rp) (w : World) (hs : Ls w w.heap.size A L) : Calls Try.prog 5 #[.int .i64 n, .int .i64 o, .slice A L.length c] w (UpPost w) := by
  have HA : Hid (Calls Try.prog 8 #[] w (UpPost w)) := awake_any w
  have HF : ∀ V, Ls V V.heap.size A L → Hid (Calls Try.prog 9 #[.slice A L.length c] V (BoolPost V (fw L))) := fun V g => few_any A c L V g
  rcases hf : fw L with _ | _
  · rw [hf] at HF
    go_enter Try.func5, Try.ntmps5
    go_wp2_with fail
    refine HA.out.mono ?_
    rintro e w1 ⟨rfl, b1⟩
    have S1 := hs.to b1 b1.size
    clear HA
    go_wp2_with fail
    refine (HF w1 S1).out.mono ?_
    rintro e w2 ⟨rfl, b2⟩
    have B2 := b1.trans (b2.mono b1.size)
    clear HF S1 b1 b2
    go_wp2
    go_ret
    exact ⟨rfl, B2⟩
  · rw [hf] at HF
    have hk := fw_few hf
    have hfw := Few.le hk.1 hk.2
    by_cases hn1 : n < 1
    · clear hf hk hfw
      go_enter Try.func5, Try.ntmps5
      go_wp2_with fail
      refine HA.out.mono ?_
      rintro e w1 ⟨rfl, b1⟩
      have S1 := hs.to b1 b1.size
      clear HA
      go_wp2_with fail
      refine (HF w1 S1).out.mono ?_
      rintro e w2 ⟨rfl, b2⟩
      have B2 := b1.trans (b2.mono b1.size)
      have S2 := S1.to b2 b2.size
      clear HF S1 b1 b2
      go_wp2
      go_ret
      exact ⟨rfl, B2⟩
    by_cases hn7 : 7 < n
    · clear hf hk hfw
      go_enter Try.func5, Try.ntmps5
      go_wp2_with fail
      refine HA.out.mono ?_
      rintro e w1 ⟨rfl, b1⟩
      have S1 := hs.to b1 b1.size
      clear HA
      go_wp2_with fail
      refine (HF w1 S1).out.mono ?_
      rintro e w2 ⟨rfl, b2⟩
      have B2 := b1.trans (b2.mono b1.size)
      have S2 := S1.to b2 b2.size
      clear HF S1 b1 b2
      go_wp2
      go_ret
      exact ⟨rfl, B2⟩
    obtain ⟨m, rfl⟩ : ∃ m : Nat, n = (m : Int) := ⟨n.toNat, by omega⟩
    have hm : am (m : Int) = m := by have := am_in (n := (m : Int)) (by omega) (by omega); omega
    have h1 : ∀ V, Ls V V.heap.size A L → Hid (Calls Try.prog 11 #[.int .i64 (m : Int), .int .i64 o, .slice A L.length c] V (ChP V (dc o m (ct L m)))) := fun V g => by
      have := Decide_any (m : Int) o A c L hfw V g
      rw [hm] at this
      exact this
    have h4 : ∀ V, Hid (Calls Try.prog 13 #[.int .i64 (m : Int)] V (IntP V (qu m))) := fun V => by
      have := Quorum_any (m : Int) V
      rw [hm] at this
      exact this
    have H1 : Hid ((dn (ct L m)).isSome = true → (dc o m (ct L m)).k = 1) := Lib.hid (fun h => by
      rcases hd : dn (ct L m) with _ | x
      · rw [hd] at h; cases h
      · rw [dc_done hd]; rfl)
    have H2 : Hid ((dn (ct L m)).isSome = false → (dc o m (ct L m)).k ≠ 1) := Lib.hid (fun h => by
      rcases hd : dn (ct L m) with _ | x
      · exact dc_k1 hd
      · rw [hd] at h; cases h)
    have H3 : Hid ((dn (ct L m)).isSome = false → (L.length : Int) < ((qu m : Nat) : Int) → (dc o m (ct L m)).k = 0) := Lib.hid (fun h hq => by
      rcases hd : dn (ct L m) with _ | x
      · have := ct_le_len L m
        unfold qu at hq
        rw [dc_wait hd (by omega)]; rfl
      · rw [hd] at h; cases h)
    have hm1 : 1 ≤ m := by omega
    have hm7 : m ≤ 7 := by omega
    have hll := hfw.1
    generalize dc o m (ct L m) = d at *
    generalize ((qu m : Nat) : Int) = q at *
    clear hf hk hfw hn1 hn7 hm
    have hn1 : ¬ (m : Int) < 1 := by omega
    have hn7 : ¬ 7 < (m : Int) := by omega
    go_enter Try.func5, Try.ntmps5
    go_wp2_with fail
    refine HA.out.mono ?_
    rintro e w1 ⟨rfl, b1⟩
    have S1 := hs.to b1 b1.size
    clear HA
    go_wp2_with fail
    refine (HF w1 S1).out.mono ?_
    rintro e w2 ⟨rfl, b2⟩
    have B2 := b1.trans (b2.mono b1.size)
    have S2 := S1.to b2 b2.size
    clear HF S1 b1 b2
    go_wp2
    have HS := Lib.hid S2
    clear S2 hs
    go_loopw [9, 10] (fun v t wr => ∃ k : Nat, k ≤ m ∧ v = .bool (dn (ct L k)).isSome ∧ t = .int .i64 ((k : Int) + 1) ∧ wr = w2) (fun _ t _ => 10 - (intOf t).toNat)
    case atStart => exact ⟨0, Nat.zero_le _, rfl, rfl, rfl⟩
    case round =>
      obtain ⟨k, hk, rfl, rfl, rfl⟩ := hrel
      by_cases hlt : k < m
      · have hki : (k : Int) + 1 ≤ (m : Int) := by omega
        go_wp2
        have hcu := Lib.hid (ct_succ L k)
        generalize hb0 : (dn (ct L k)).isSome = b0 at *
        have HB0 := Lib.hid hb0
        clear hb0
        go_loopw [9, 11] (fun v t wr' => ∃ i : Nat, v = .bool b0 ∧ i ≤ L.length ∧ t = .int .i64 (i : Int) ∧ wr' = wr ∧ ∀ j, (h : j < L.length) → j < i → L[j].f ≠ (k : Int) + 1) (fun _ t _ => 201 - (intOf t).toNat)
        case atStart => exact ⟨0, rfl, Nat.zero_le _, rfl, rfl, fun j _ h => absurd h (Nat.not_lt_zero _)⟩
        case round =>
          obtain ⟨i, rfl, hi1, rfl, rfl, hno⟩ := hrel
          have HNO := Lib.hid hno
          clear hno
          by_cases hil : i < L.length
          · have hili : (i : Int) < (L.length : Int) := by omega
            have hil0 : (0 : Int) ≤ (i : Int) := by omega
            have HT : Hid (L[i].f ≠ (k : Int) + 1 → ∀ j, (h : j < L.length) → j < i + 1 → L[j].f ≠ (k : Int) + 1) := Lib.hid (fun hne j hj hjk => by
              rcases Nat.lt_or_ge j i with h | h
              · exact HNO.out j hj h
              · obtain rfl : j = i := by omega
                exact hne)
            have HE : Hid (L[i].f = (k : Int) + 1 → (dn (ct L (k + 1))).isSome = (b0 || (L[i].r.st == 3))) := Lib.hid (fun he => by
              rw [hcu.out, fd_at hil he (fun j hj => HNO.out j (by omega) hj), ← HB0.out]
              exact dn_snoc _ _)
            obtain ⟨b, off, hA, hb, hq, hx⟩ := HS.out.at_ hil
            generalize L[i] = x at *
            obtain ⟨q0, q1, q2, q3, q4, q5, q6, q7, q8, q9, q10, q11, q12, q13⟩ := id hq
            subst hA
            obtain ⟨xf, xr, xA, xc⟩ := x
            dsimp only at q0 q1 q2 q3 q4 q5 q6 q7 q8 q9 q10 q11 q12 q13 HT HE hx hq
            by_cases hf : (k : Int) + 1 = xf
            · subst hf
              have E9 := Lib.hid (HE.out rfl)
              clear HT HE
              rcases b0 with _ | _
              · rcases hst : (xr.st == 3) with _ | _
                · have hst2 : ¬ xr.st = 3 := by simpa using hst
                  go_wp2
                  go_roundw
                  case rel => exact ⟨k + 1, by omega, by rw [E9.out]; simp [hst2], by go_num, by first | rfl | trivial⟩
                  case measure => simp [intOf]; omega
                · have hst2 : xr.st = 3 := by simpa using hst
                  go_wp2
                  go_roundw
                  case rel => exact ⟨k + 1, by omega, by rw [E9.out]; simp [hst2], by go_num, by first | rfl | trivial⟩
                  case measure => simp [intOf]; omega
              · go_wp2
                go_roundw
                case rel => exact ⟨k + 1, by omega, by rw [E9.out]; rfl, by go_num, by first | rfl | trivial⟩
                case measure => simp [intOf]; omega
            · have N9 := Lib.hid (HT.out (fun e => hf e.symm))
              clear HT HE
              have hf2 : (xf == (k : Int) + 1) = false := by rw [beq_eq_false_iff_ne]; exact fun e => hf e.symm
              have hf3 : ¬ xf = (k : Int) + 1 := fun e => hf e.symm
              clear hf
              go_wp2
              go_roundw
              case rel => exact ⟨i + 1, by first | rfl | trivial, by omega, by go_num, by first | rfl | trivial, N9.out⟩
              case measure => simp [intOf]; omega
          · obtain rfl : i = L.length := by omega
            have E9 : Hid ((dn (ct L (k + 1))).isSome = b0) := by
              refine Lib.hid ?_
              rw [hcu.out, fd_none (fun j hj => HNO.out j hj hj), ← HB0.out]
              simp
            go_wp2
            go_roundw
            case rel => exact ⟨k + 1, by omega, by rw [E9.out], by go_num, by first | rfl | trivial⟩
            case measure => simp [intOf]; omega
      · obtain rfl : k = m := by omega
        have h1' := h1 wr HS.out
        generalize (dn (ct L k)).isSome = b0 at *
        clear h1
        go_wp2_with fail
        refine h1'.out.mono ?_
        rintro e w3 ⟨A3, c3, rfl, f3, b3⟩
        have B3 := B2.trans (b3.mono B2.size)
        have b4 : Below w3.heap.size w3 (w3.alloc (.cells (chc d A3 c3) 32)) := (Below.refl _ _).alloc (Nat.le_refl _) _
        have X4 := cx_new w3 d A3 c3
        have B4 := B3.trans (b4.mono B3.size)
        have l4 := X4.lt
        obtain ⟨p0, p1, p2, p3, p4, p5, p6, p7, p8⟩ := id X4.cc
        clear h1' B3 b3 b4 f3
        rcases b0 with _ | _
        · have e1 : ¬ d.k = 1 := H2.out rfl
          have E3 := Lib.hid (H3.out rfl)
          clear H1 H2 H3
          have h4' := h4 (w3.alloc (.cells (chc d A3 c3) 32))
          clear h4
          go_wp2_with fail
          generalize w3.alloc (.cells (chc d A3 c3) 32) = w4 at *
          refine h4'.out.mono ?_
          rintro e w5 ⟨rfl, b5⟩
          have B5 := B4.trans (b5.mono B4.size)
          have X5 := X4.on b5 X4.lt
          clear h4' X4 B4 b5 p0 p1 p2 p3 p4 p5 p6 p7 p8
          obtain ⟨p0, p1, p2, p3, p4, p5, p6, p7, p8⟩ := id X5.cc
          by_cases hq : (L.length : Int) < q
          · have e3 := E3.out hq
            have hq2 : ¬ q ≤ (L.length : Int) := by omega
            go_wp2
            go_ret
            exact ⟨rfl, B5⟩
          · have hq2 : q ≤ (L.length : Int) := by omega
            go_wp2
            go_ret
            exact ⟨by simp [e1], B5⟩
        · have E1 := Lib.hid (H1.out rfl)
          clear H1 H2 H3 h4
          go_wp2
          go_ret
          exact ⟨by simp [E1.out], B4⟩

end Go.Proofs.Ytgmfjoegfbaebaa.Rg
