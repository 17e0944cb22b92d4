/-
  The walk of the law GraphLine. No conditions.
-/
import Derived.Test.YtnfjfpiijikniaaLnp
import Derived.Test.YtnfjfpiijikniaaAp
import Derived.Test.YtnfjfpiijikniaaCq
namespace Go.Proofs.Ytnfjfpiijikniaa.Gp
open Go.RowKit
set_option linter.unusedVariables false

theorem own_same' {w w' : World} {base size : Nat} {e : TypeId} {v : Value} {n : Nat} {xs : List Value} (h : w.ownsRow base e size v n xs) (hg : ∀ g, v.ownBlock = some g → w'.heap[g]? = w.heap[g]?) : w'.ownsRow base e size v n xs := by
  refine ⟨h.1, ?_⟩
  rcases h.2 with h0 | ⟨g, cap, cur, rfl, h1, h2, h3⟩
  · exact .inl h0
  · exact .inr ⟨g, cap, cur, rfl, h1, (hg g rfl).trans h2, h3⟩
theorem own_row' {w : World} {base size : Nat} {e : TypeId} {v : Value} {n : Nat} {xs : List Value} (h : w.ownsRow base e size v n xs) : ∀ r, v.ownBlock = some r → ∃ cs, w.heap[r]? = some (.cells cs e (0, 0)) := by
  rcases h.2 with ⟨rfl, _⟩ | ⟨g, cap, cur, rfl, _, hh, _⟩
  · intro r hr; simp [Value.ownBlock] at hr
  · intro r hr
    have : r = g := by simpa [Value.ownBlock] using hr.symm
    exact ⟨cur, by rw [this]; exact hh⟩
theorem Pr.keep {w w' : World} {base : Nat} {v : Value} {ps : List (List Nat)} {row : Option Nat} (h : Pr w base v ps) (hg : w.grownBy w' row) (hr : ∀ r, row = some r → ∃ cs, w.heap[r]? = some (.cells cs 33 (0, 0))) : Pr w' base v ps := by
  obtain ⟨hs, h1, h2⟩ := h
  have hu : Ut 3 w w' := fun b cs hb => (hg.block b (lt_of_block hb) (fun e => by
    obtain ⟨cs', k⟩ := hr b e.symm
    exact other_tag hb k (by decide) rfl)).trans hb
  refine ⟨hs, own_same h1 fun r k => ?_, fun i p hp => by obtain ⟨x, k1, k2⟩ := h2 i p hp; exact ⟨x, k1, k2.ut hu⟩⟩
  obtain ⟨cs, hc⟩ := own_row h1 r k
  exact hg.block r (lt_of_block hc) (fun e => by
    obtain ⟨cs', k'⟩ := hr r e.symm
    exact other_tag hc k' (by decide) rfl)
theorem pr_at {W : World} {base g n c : Nat} {out : List (List Nat)} (h : Pr W base (.slice (some ⟨g, 0, none⟩) n c) out) {i : Nat} {p : List Nat} (hn : n = out.length) (hp : out[i]? = some p) : ∃ g' c', W.cell? ⟨g, i, none⟩ = some (.slice (some ⟨g', 0, none⟩) p.length c') ∧ ∀ (j x : Nat), p[j]? = some x → W.cell? ⟨g', j, none⟩ = some (.int .i64 (x : Int)) := by
  subst hn
  obtain ⟨hs, h1, h2⟩ := h
  obtain ⟨x, k1, k2⟩ := h2 i p hp
  obtain ⟨g', c', cur, rfl, _⟩ := id k2
  exact ⟨g', c', own_cell h1 k1, fun j y hy => k2.cell hy⟩
theorem line_ed' (k : Nat) : Out (Ed (k + 1) (ln k)) (k + 1) (fun _ => False) (dn (k + 1)) := line_ed (k + 1) (by omega)
theorem ring_ed' (k : Nat) : Out (Ed (k + 1) (ln k ++ [((k : Int), 0)])) (k + 1) (fun _ => False) [List.range (k + 1)] := by
  have := ring_ed (k + 1) (by omega)
  rwa [show ((k + 1 : Nat) : Int) - 1 = (k : Int) by omega, Nat.add_sub_cancel] at this

set_option maxRecDepth 100000 in
set_option maxHeartbeats 2000000 in
theorem lline_core (n : Int) (m : Nat) (hnm : n = (m : Int) + 1) (hm : m < 30) (w : World) : Calls Try.prog 8 #[.int .i64 n] w (UpPost w) := by
  have HW := Lib.hid (awake_any w)
  have ham : am n = m + 1 := by unfold am; omega
  have h1 : 1 ≤ n := by omega
  have h2 : n ≤ 30 := by omega
  have hn1 : n - 1 = (m : Int) := by omega
  have HN := Lib.hid hnm
  have d0 : decide (n < 1) = false := decide_eq_false (by omega)
  have d1 : decide (30 < n) = false := decide_eq_false (by omega)
  have HC := Lib.hid (fun A c l (h : l.length ≤ 1000) W hs => ComponentsP_any n A c l h W hs)
  unfold OutPr at HC
  rw [ham] at HC
  clear hnm ham
  go_enter Try.func8, Try.ntmps8
  go_wp2_with fail
  refine HW.out.mono ?_
  rintro e w1 ⟨rfl, B1⟩
  have HB1 := Lib.hid B1
  clear B1
  go_wp2
  go_loopg [4, 5] m (fun q v t W => ∃ k : Nat, k + q = m ∧ t = .int .i64 (k : Int) ∧ Hid (W.ownsRow w1.heap.size 33 2 v (ln k).length (eg2 (ln k))) ∧ Hid (Below w1.heap.size w1 W))
  case atStart => exact ⟨0, by omega, rfl, World.ownsRow_nil _ _ _ _, Below.refl _ _⟩
  case round =>
    obtain ⟨k, hk, rfl, hown, hB⟩ := hrel
    by_cases hlt : k < m
    · have hki : (k : Int) + 1 < n := by have := HN.out; omega
      have hk0 : (0 : Int) ≤ (k : Int) := by omega
      have hz := hB.out.size
      have OWN := Lib.hid (hown.out.alloc (.cells #[.int .i64 (k : Int), .int .i64 ((k : Int) + 1)] 33))
      have ES := Lib.hid (es_one wr (k : Int) ((k : Int) + 1) 33)
      have HT := Lib.hid (ln_succ k)
      have HL := Lib.hid (ln_len k)
      go_wp2_with (at_builtin; refine wpList_app2 rfl (.tmp 27) (.tmp 32) rfl u4 rfl (ln k) w1.heap.size OWN.out (some ⟨wr.heap.size, 0, none⟩) 1 1 rfl [((k : Int), (k : Int) + 1)] rfl _ ES.out (by rw [HL.out]; simp; omega) (by simp; omega) ?_; intro v5 w5 own5 grow5)
      have B5 := Lib.hid ((hB.out.alloc hz (.cells #[.int .i64 (k : Int), .int .i64 ((k : Int) + 1)] 33)).grown grow5 (by simp; omega) (fun r hr => (OWN.out.lt r hr).1))
      have HO5 := Lib.hid own5
      clear own5 grow5
      go_wp2
      go_roundg (m - (k + 1))
      case measure => omega
      case rel => exact ⟨k + 1, by omega, by go_num, by rw [HT.out]; exact HO5.out, B5.out⟩
    · obtain rfl : m = k := by omega
      have hnl : decide ((m : Int) + 1 < n) = false := decide_eq_false (by have := HN.out; omega)
      obtain ⟨A1, c1, rfl, S1⟩ := own_es hown.out rfl
      have HL := Lib.hid (ln_len m)
      have hll : (ln m).length ≤ 900 := by rw [HL.out]; omega
      have HC1 := Lib.hid (HC.out A1 c1 (ln m) (by omega) wr S1)
      have HBz := Lib.hid (HB1.out.trans (hB.out.mono HB1.out.size))
      have HLE := Lib.hid (line_ed' m)
      have HRE := Lib.hid (ring_ed' m)
      clear S1
      go_wp2_with fail
      refine HC1.out.mono ?_
      rintro e w3 ⟨out, hO, A3, c3, bs3, rfl, hP3, B3⟩
      obtain rfl := hO.one HLE.out
      have B3' := HBz.out.trans (B3.mono HBz.out.size)
      have hz3 := B3.size
      have hzb := hB.out.size
      have OW3 := own_same' (w' := w3) hown.out fun r hr => B3.block r (hown.out.lt r hr).2
      have OWN := Lib.hid (OW3.alloc (.cells #[.int .i64 (m : Int), .int .i64 0] 33))
      have ES := Lib.hid (es_one w3 (m : Int) 0 33)
      have HP3 := Lib.hid (hP3.up ((Below.refl w3.heap.size w3).alloc (Nat.le_refl _) (.cells #[.int .i64 (m : Int), .int .i64 0] 33)))
      have HB3 := Lib.hid B3'
      have Hw1 := HB1.out.size
      have Hz3 : w1.heap.size ≤ w3.heap.size := by omega
      clear OW3 hP3 hO B3 B3' HC1
      go_wp2_with (at_builtin; refine wpList_app2 rfl (.tmp 37) (.tmp 41) rfl (.slice A1 (ln m).length c1) rfl (ln m) w1.heap.size OWN.out (some ⟨w3.heap.size, 0, none⟩) 1 1 rfl [((m : Int), 0)] rfl _ ES.out (by simp; omega) (by simp; omega) ?_; intro v5 w5 own5 grow5)
      obtain ⟨A5, c5, rfl, S5⟩ := own_es own5 rfl
      have HC2 := Lib.hid (HC.out A5 c5 (ln m ++ [((m : Int), 0)]) (by simp; omega) w5 S5)
      have HP5 := Lib.hid (HP3.out.keep grow5 (own_row' OWN.out))
      have HB5 := Lib.hid ((HB3.out.alloc HB3.out.size (.cells #[.int .i64 (m : Int), .int .i64 0] 33)).grown grow5 (by simp; omega) (fun r hr => by have := (OWN.out.lt r hr).1; omega))
      clear own5 grow5 S5
      refine HC2.out.mono ?_
      rintro e w6 ⟨out, hO, A7, c7, bs7, rfl, hP7, B6⟩
      obtain rfl := hO.one HRE.out
      have HP6 := Lib.hid (HP5.out.up B6)
      have HP7 := Lib.hid hP7
      have HB6 := Lib.hid (HB5.out.trans (B6.mono HB5.out.size))
      have hdl := dn_len (m + 1)
      obtain ⟨X, y, e6, hA6⟩ := HP6.out.form
      obtain ⟨g6, hg6⟩ := hA6 (by omega)
      simp only [Value.slice.injEq] at e6
      obtain ⟨rfl, _, rfl⟩ := e6
      subst hg6
      obtain ⟨X, y, e7, hA7⟩ := HP7.out.form
      obtain ⟨g7, hg7⟩ := hA7 (by simp)
      simp only [Value.slice.injEq] at e7
      obtain ⟨rfl, _, rfl⟩ := e7
      subst hg7
      obtain ⟨gr, cr, k7, q7⟩ := pr_at HP7.out (i := 0) (p := List.range (m + 1)) rfl rfl
      rw [List.length_range] at k7
      have K6 : Hid (∀ i, i ≤ m → ∃ gi ci, w6.cell? ⟨g6, i, none⟩ = some (.slice (some ⟨gi, 0, none⟩) 1 ci) ∧ w6.cell? ⟨gi, 0, none⟩ = some (.int .i64 ((m - i : Nat) : Int))) := fun i hi => by
        obtain ⟨gi, ci, k1, k2⟩ := pr_at HP6.out (i := i) (p := [m - i]) rfl (by rw [dn_get (m + 1) i (by omega)]; congr 2)
        exact ⟨gi, ci, k1, k2 0 _ rfl⟩
      have Q7 : Hid (∀ i, i ≤ m → w6.cell? ⟨gr, i, none⟩ = some (.int .i64 (i : Int))) := fun i hi => q7 i i (by rw [List.getElem?_range (by omega)])
      have hL6 : (((dn (m + 1)).length : Nat) : Int) = n := by rw [hdl]; have := HN.out; omega
      generalize (dn (m + 1)).length = L6 at *
      have hmn : (m : Int) + 1 = n := by have := HN.out; omega
      clear hdl hO hP7 B6 HC2 q7 HP6 HP7 HP5
      go_wp2
      go_loopg [8] (m + 1) (fun q t W => ∃ i : Nat, i + q = m + 1 ∧ t = .int .i64 (i : Int) ∧ w6 = W)
      case atStart => exact ⟨0, by omega, rfl, rfl⟩
      case round =>
        obtain ⟨i, hi, rfl, hW⟩ := hrel
        subst hW
        by_cases hlt : i ≤ m
        · have hii : (i : Int) < n := by omega
          have hi0 : (0 : Int) ≤ (i : Int) := by omega
          obtain ⟨gi, ci, k6, q6⟩ := K6.out i hlt
          have q8 := Q7.out i hlt
          obtain ⟨j, hj⟩ : ∃ j, j = m - i := ⟨_, rfl⟩
          rw [← hj] at q6
          have he : ((j : Int) != ((m : Int) - (i : Int))) = false := by simp; omega
          clear hj
          go_wp2
          go_roundg (m + 1 - (i + 1))
          case measure => omega
          case rel => exact ⟨i + 1, by omega, by go_num, rfl⟩
        · have hni : decide ((i : Int) < n) = false := decide_eq_false (by omega)
          go_wp2
          go_ret
          exact ⟨rfl, HB6.out⟩

theorem lline_any (n : Int) (w : World) : Calls Try.prog 8 #[.int .i64 n] w (UpPost w) := by
  have HW := Lib.hid (awake_any w)
  by_cases h0 : n < 1
  · go_enter Try.func8, Try.ntmps8
    go_wp2_with fail
    refine HW.out.mono ?_
    rintro e w1 ⟨rfl, B1⟩
    go_wp2
    go_ret
    exact ⟨rfl, B1⟩
  · have d0 := decide_eq_false h0
    by_cases h1 : 30 < n
    · go_enter Try.func8, Try.ntmps8
      go_wp2_with fail
      refine HW.out.mono ?_
      rintro e w1 ⟨rfl, B1⟩
      go_wp2
      go_ret
      exact ⟨rfl, B1⟩
    · exact lline_core n (n.toNat - 1) (by omega) (by omega) w

end Go.Proofs.Ytnfjfpiijikniaa.Gp
