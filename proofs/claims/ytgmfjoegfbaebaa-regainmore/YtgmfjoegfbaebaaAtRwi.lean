/-
  The walks of the document's Within and Same. Conditions: at most 1000 deps.
-/
import Derived.Test.YtgmfjoegfbaebaaAtWi
namespace Go.Proofs.Ytgmfjoegfbaebaa.At
open Go.RowKit

set_option maxHeartbeats 2000000 in
theorem rwithin_any (a b : Int) (A A' : Option Addr) (c c' : Nat) (xs ys : List Int) (w : World) (hx : Sl w w.heap.size .i64 A xs) (hy : Sl w w.heap.size .i64 A' ys) (lx : xs.length ≤ 1000) (ly : ys.length ≤ 1000) :
    Calls Try.prog 32 #[.agg #[.int .i64 a, .slice A xs.length c], .agg #[.int .i64 b, .slice A' ys.length c']] w (BoolPost w (wi a xs b ys)) := by
  by_cases hab : b < a
  · rw [wi_no hab]
    go_enter Try.func32, Try.ntmps32
    go_wp2
    go_ret
    exact ⟨rfl, ((Below.refl _ _).alloc (Nat.le_refl _) _).alloc (by simp) _⟩
  · have HY : Hid (∀ i, ys.getD i 0 < xs.getD i 0 → wi a xs b ys = false) := fun i h => wi_not h
    have HZ : Hid ((∀ i, i < max xs.length ys.length → xs.getD i 0 ≤ ys.getD i 0) → wi a xs b ys = true) := fun h => wi_yes (by omega) h
    generalize hr : wi a xs b ys = r at *
    clear hr
    have BW : Below w.heap.size w ((w.alloc (.cells #[.int .i64 a, .slice A xs.length c] 30)).alloc (.cells #[.int .i64 b, .slice A' ys.length c'] 30)) := ((Below.refl _ _).alloc (Nat.le_refl _) _).alloc (by simp) _
    have Z0 : ((w.alloc (.cells #[.int .i64 a, .slice A xs.length c] 30)).alloc (.cells #[.int .i64 b, .slice A' ys.length c'] 30)).heap.size = w.heap.size + 1 + 1 := by simp
    have C0 : Rb ((w.alloc (.cells #[.int .i64 a, .slice A xs.length c] 30)).alloc (.cells #[.int .i64 b, .slice A' ys.length c'] 30)) w.heap.size a A xs.length c := (rb_new w a A xs.length c).on ((Below.refl _ _).alloc (Nat.le_refl _) _) (by simp)
    have D0 : Rb ((w.alloc (.cells #[.int .i64 a, .slice A xs.length c] 30)).alloc (.cells #[.int .i64 b, .slice A' ys.length c'] 30)) (w.heap.size + 1) b A' ys.length c' := by
      have := rb_new (w.alloc (.cells #[.int .i64 a, .slice A xs.length c] 30)) b A' ys.length c'
      rw [show (w.alloc (.cells #[.int .i64 a, .slice A xs.length c] 30)).heap.size = w.heap.size + 1 by simp] at this
      exact this
    have X0 := hx.to BW BW.size
    have Y0 := hy.to BW BW.size
    have HO : ∀ (k : Nat) W, k ≤ 1000 → Sl W W.heap.size .i64 A xs → Hid (Calls Try.prog 39 #[.agg #[.int .i64 a, .slice A xs.length c], .int .i64 ((k : Int) + 1)] W (IntPost W (xs.getD k 0))) := fun k W hk h => by
      have := dep_any a A c W.heap.size xs ((k : Int) + 1) W (Nat.le_refl _) h (by omega)
      rw [dp_at] at this
      exact this
    have HP : ∀ (k : Nat) W, k ≤ 1000 → Sl W W.heap.size .i64 A' ys → Hid (Calls Try.prog 39 #[.agg #[.int .i64 b, .slice A' ys.length c'], .int .i64 ((k : Int) + 1)] W (IntPost W (ys.getD k 0))) := fun k W hk h => by
      have := dep_any b A' c' W.heap.size ys ((k : Int) + 1) W (Nat.le_refl _) h (by omega)
      rw [dp_at] at this
      exact this
    go_enter Try.func32, Try.ntmps32
    go_wp2
    generalize ((w.alloc (.cells #[.int .i64 a, .slice A xs.length c] 30)).alloc (.cells #[.int .i64 b, .slice A' ys.length c'] 30)) = W0 at *
    have HZ0 := Lib.hid Z0
    clear Z0
    go_loopw [5] (fun i wr => ∃ k : Nat, k ≤ max xs.length ys.length ∧ i = .int .i64 ((k : Int) + 1) ∧ Below W0.heap.size W0 wr ∧ ∀ i, i < k → xs.getD i 0 ≤ ys.getD i 0) (fun i _ => 1001 - (intOf i).toNat)
    case atStart => exact ⟨0, by omega, rfl, Below.refl _ _, fun i hi => by omega⟩
    case round =>
      obtain ⟨k, hk, rfl, hbel, hall⟩ := hrel
      have HA := Lib.hid hall
      clear hall
      have hsz := hbel.size
      have z1 : w.heap.size < wr.heap.size := by have := HZ0.out; omega
      have z2 : w.heap.size + 1 < wr.heap.size := by have := HZ0.out; omega
      have C1 := C0.on hbel (by have := HZ0.out; omega)
      have D1 := D0.on hbel (by have := HZ0.out; omega)
      have X1 := X0.up hbel
      have Y1 := Y0.up hbel
      have BE := BW.trans (hbel.mono BW.size)
      obtain ⟨p0, p1⟩ := id C1
      obtain ⟨r0, r1⟩ := id D1
      have fin : ∀ W, (Rb W w.heap.size a A xs.length c ∧ Rb W (w.heap.size + 1) b A' ys.length c' ∧ Below wr.heap.size wr W) → Below w.heap.size w W ∧ Below W0.heap.size W0 W := fun W h => ⟨BE.trans (h.2.2.mono BE.size), hbel.trans (h.2.2.mono hsz)⟩
      have FIN := Lib.hid fin
      clear fin
      by_cases hlt : k < max xs.length ys.length
      · have HYk := Lib.hid (HY.out k)
        have HX : Hid (xs.getD k 0 ≤ ys.getD k 0 → ∀ i, i < k + 1 → xs.getD i 0 ≤ ys.getD i 0) := fun q i hi => by
          rcases Nat.lt_or_ge i k with h | h
          · exact HA.out i h
          · obtain rfl : i = k := by omega
            exact q
        have S0 : Rb wr w.heap.size a A xs.length c ∧ Rb wr (w.heap.size + 1) b A' ys.length c' ∧ Below wr.heap.size wr wr := ⟨C1, D1, Below.refl _ _⟩
        have KD : Hid (∀ v, (Rb v w.heap.size a A xs.length c ∧ Rb v (w.heap.size + 1) b A' ys.length c' ∧ Below wr.heap.size wr v) → (Rb v.drew w.heap.size a A xs.length c ∧ Rb v.drew (w.heap.size + 1) b A' ys.length c' ∧ Below wr.heap.size wr v.drew)) := fun v hS => keep2 z1 z2 hS ((Below.refl _ _).drew)
        have KS : Hid (∀ v v', Below v.heap.size v v' → (Rb v w.heap.size a A xs.length c ∧ Rb v (w.heap.size + 1) b A' ys.length c' ∧ Below wr.heap.size wr v) → (Rb v' w.heap.size a A xs.length c ∧ Rb v' (w.heap.size + 1) b A' ys.length c' ∧ Below wr.heap.size wr v')) := fun v v' hb hS => keep2 z1 z2 hS (hb.mono hS.2.2.size)
        have HO2 : ∀ W, (Rb W w.heap.size a A xs.length c ∧ Rb W (w.heap.size + 1) b A' ys.length c' ∧ Below wr.heap.size wr W) → Hid (Calls Try.prog 39 #[.agg #[.int .i64 a, .slice A xs.length c], .int .i64 ((k : Int) + 1)] W (IntPost W (xs.getD k 0))) := fun W hS => HO k W (by omega) (X1.up hS.2.2)
        have HP2 : ∀ W, (Rb W w.heap.size a A xs.length c ∧ Rb W (w.heap.size + 1) b A' ys.length c' ∧ Below wr.heap.size wr W) → Hid (Calls Try.prog 39 #[.agg #[.int .i64 b, .slice A' ys.length c'], .int .i64 ((k : Int) + 1)] W (IntPost W (ys.getD k 0))) := fun W hS => HP k W (by omega) (Y1.up hS.2.2)
        clear HO HP HY HA HZ C0 D0 X0 Y0 C1 D1 X1 Y1 hx hy BW
        generalize xs.getD k 0 = x at *
        generalize ys.getD k 0 = y at *
        have hlt2 : (k : Int) + 1 ≤ (xs.length : Int) ∨ (k : Int) + 1 ≤ (ys.length : Int) := by omega
        by_cases g1 : (k : Int) + 1 ≤ (xs.length : Int)
        · clear hlt2
          go_wp2_with fail
          go_region_held3 (fun v => (v.cell? ⟨w.heap.size, 0, none⟩ = some (.int .i64 a) ∧ v.cell? ⟨w.heap.size, 1, none⟩ = some (.slice A xs.length c)) ∧ (v.cell? ⟨w.heap.size + 1, 0, none⟩ = some (.int .i64 b) ∧ v.cell? ⟨w.heap.size + 1, 1, none⟩ = some (.slice A' ys.length c')) ∧ Below wr.heap.size wr v)
            (first | (exact S0) | (exact KD.out _ S0) | (refine KS.out _ _ hb2 ?_; assumption) | (refine KS.out _ _ hb1 ?_; first | assumption | exact KD.out _ S0) | (refine KD.out _ ?_; assumption))
            (first | (go_at_call 39; (with_reducible refine (HO2 _ ?_).out.mono ?_); (focus (first | assumption | exact KD.out _ S0)); rintro e wa ⟨rfl, hb1⟩) | (go_at_call 39; (with_reducible refine (HP2 _ ?_).out.mono ?_); (focus (first | assumption | exact KD.out _ S0)); rintro e wb ⟨rfl, hb2⟩))
          rename_i hSx
          obtain ⟨E1, E2⟩ := FIN.out _ hSx
          by_cases hxy : y < x
          · go_wp2
            go_ret
            exact ⟨by rw [HYk.out hxy]; rfl, E1⟩
          · go_wp2
            go_roundw
            case rel => exact ⟨k + 1, by omega, by go_num, E2, HX.out (by omega)⟩
            case measure => simp [intOf]; omega
        · have g2 : (k : Int) + 1 ≤ (ys.length : Int) := by omega
          clear hlt2
          go_wp2_with fail
          go_region_held3 (fun v => (v.cell? ⟨w.heap.size, 0, none⟩ = some (.int .i64 a) ∧ v.cell? ⟨w.heap.size, 1, none⟩ = some (.slice A xs.length c)) ∧ (v.cell? ⟨w.heap.size + 1, 0, none⟩ = some (.int .i64 b) ∧ v.cell? ⟨w.heap.size + 1, 1, none⟩ = some (.slice A' ys.length c')) ∧ Below wr.heap.size wr v)
            (first | (exact S0) | (exact KD.out _ S0) | (refine KS.out _ _ hb2 ?_; assumption) | (refine KS.out _ _ hb1 ?_; first | assumption | exact KD.out _ S0) | (refine KD.out _ ?_; assumption))
            (first | (go_at_call 39; (with_reducible refine (HO2 _ ?_).out.mono ?_); (focus (first | assumption | exact KD.out _ S0)); rintro e wa ⟨rfl, hb1⟩) | (go_at_call 39; (with_reducible refine (HP2 _ ?_).out.mono ?_); (focus (first | assumption | exact KD.out _ S0)); rintro e wb ⟨rfl, hb2⟩))
          rename_i hSx
          obtain ⟨E1, E2⟩ := FIN.out _ hSx
          by_cases hxy : y < x
          · go_wp2
            go_ret
            exact ⟨by rw [HYk.out hxy]; rfl, E1⟩
          · go_wp2
            go_roundw
            case rel => exact ⟨k + 1, by omega, by go_num, E2, HX.out (by omega)⟩
            case measure => simp [intOf]; omega
      · obtain rfl : k = max xs.length ys.length := by omega
        have HZ' := Lib.hid (HZ.out HA.out)
        clear HO HP HY HA HZ
        have g1 : ¬ ((max xs.length ys.length : Nat) : Int) + 1 ≤ (xs.length : Int) := by omega
        have g2 : ¬ ((max xs.length ys.length : Nat) : Int) + 1 ≤ (ys.length : Int) := by omega
        have g3 : ((max xs.length ys.length : Nat) : Int) ≤ 1000 := by omega
        generalize max xs.length ys.length = m at *
        go_wp2
        go_ret
        exact ⟨by rw [HZ'.out]; rfl, BE⟩

set_option maxHeartbeats 800000 in
theorem rsame_any (a b : Int) (A A' : Option Addr) (c c' : Nat) (xs ys : List Int) (w : World) (hx : Sl w w.heap.size .i64 A xs) (hy : Sl w w.heap.size .i64 A' ys) (lx : xs.length ≤ 1000) (ly : ys.length ≤ 1000) :
    Calls Try.prog 18 #[.agg #[.int .i64 a, .slice A xs.length c], .agg #[.int .i64 b, .slice A' ys.length c']] w (BoolPost w (sa a xs b ys)) := by
  have H1 : ∀ W, Sl W W.heap.size .i64 A xs → Sl W W.heap.size .i64 A' ys → Hid (Calls Try.prog 32 #[.agg #[.int .i64 a, .slice A xs.length c], .agg #[.int .i64 b, .slice A' ys.length c']] W (BoolPost W (wi a xs b ys))) := fun W h1 h2 => rwithin_any a b A A' c c' xs ys W h1 h2 lx ly
  have H2 : ∀ W, Sl W W.heap.size .i64 A xs → Sl W W.heap.size .i64 A' ys → Hid (Calls Try.prog 32 #[.agg #[.int .i64 b, .slice A' ys.length c'], .agg #[.int .i64 a, .slice A xs.length c]] W (BoolPost W (wi b ys a xs))) := fun W h1 h2 => rwithin_any b a A' A c' c ys xs W h2 h1 ly lx
  unfold sa
  generalize wi a xs b ys = p at *
  generalize wi b ys a xs = q at *
  have BW : Below w.heap.size w ((w.alloc (.cells #[.int .i64 a, .slice A xs.length c] 30)).alloc (.cells #[.int .i64 b, .slice A' ys.length c'] 30)) := ((Below.refl _ _).alloc (Nat.le_refl _) _).alloc (by simp) _
  have Z0 : ((w.alloc (.cells #[.int .i64 a, .slice A xs.length c] 30)).alloc (.cells #[.int .i64 b, .slice A' ys.length c'] 30)).heap.size = w.heap.size + 1 + 1 := by simp
  have C0 : Rb ((w.alloc (.cells #[.int .i64 a, .slice A xs.length c] 30)).alloc (.cells #[.int .i64 b, .slice A' ys.length c'] 30)) w.heap.size a A xs.length c := (rb_new w a A xs.length c).on ((Below.refl _ _).alloc (Nat.le_refl _) _) (by simp)
  have D0 : Rb ((w.alloc (.cells #[.int .i64 a, .slice A xs.length c] 30)).alloc (.cells #[.int .i64 b, .slice A' ys.length c'] 30)) (w.heap.size + 1) b A' ys.length c' := by
    have := rb_new (w.alloc (.cells #[.int .i64 a, .slice A xs.length c] 30)) b A' ys.length c'
    rw [show (w.alloc (.cells #[.int .i64 a, .slice A xs.length c] 30)).heap.size = w.heap.size + 1 by simp] at this
    exact this
  have X0 := hx.to BW BW.size
  have Y0 := hy.to BW BW.size
  go_enter Try.func18, Try.ntmps18
  go_wp2_with fail
  generalize ((w.alloc (.cells #[.int .i64 a, .slice A xs.length c] 30)).alloc (.cells #[.int .i64 b, .slice A' ys.length c'] 30)) = W0 at *
  refine (H1 W0 X0 Y0).out.mono ?_
  rintro e w1 ⟨rfl, B1⟩
  have q1 := B1.size
  have HB2 := H2 w1 (X0.up B1) (Y0.up B1)
  obtain ⟨p0, p1⟩ := C0.on B1 (by omega)
  obtain ⟨r0, r1⟩ := D0.on B1 (by omega)
  have BE := BW.trans (B1.mono BW.size)
  clear H1 H2 C0 D0 X0 Y0 hx hy
  cases p
  · go_wp2_with fail
    refine HB2.out.mono ?_
    rintro e w2 ⟨rfl, B2⟩
    go_wp2
    go_ret
    exact ⟨rfl, BE.trans (B2.mono (by omega))⟩
  · go_wp2_with fail
    refine HB2.out.mono ?_
    rintro e w2 ⟨rfl, B2⟩
    go_wp2
    go_ret
    exact ⟨rfl, BE.trans (B2.mono (by omega))⟩

end Go.Proofs.Ytgmfjoegfbaebaa.At
