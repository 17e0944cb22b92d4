/-
  The walks of Within, Same and Waits, the program's and the document's. Conditions: at most 1000 deps.
-/
import Derived.Test.YtgmfjoegfbaebaaAtSmall
namespace Go.Proofs.Ytgmfjoegfbaebaa.At
open Go.RowKit

set_option maxHeartbeats 800000 in
theorem within_any (a b : Int) (A A' : Option Addr) (c c' : Nat) (xs ys : List Int) (w : World) (hx : Sl w w.heap.size .i64 A xs) (hy : Sl w w.heap.size .i64 A' ys) (lx : xs.length ≤ 1000) (ly : ys.length ≤ 1000) :
    Calls Try.prog 48 #[.agg #[.int .i64 a, .slice A xs.length c], .agg #[.int .i64 b, .slice A' ys.length c']] w (BoolPost w (wi a xs b ys)) := by
  by_cases hab : b < a
  · rw [wi_no hab]
    go_enter Try.func48, Try.ntmps48
    go_wp2
    go_ret
    exact ⟨rfl, ((Below.refl _ _).alloc (Nat.le_refl _) _).alloc (by simp) _⟩
  · have HL : ∀ (B : Option Addr) (C : Nat) (W : World), Rc W W.heap.size B [(a, xs), (b, ys)] → Hid (Calls Try.prog 50 #[.slice B 2 C] W (IntPost W (max xs.length ys.length : Nat))) := fun B C W h => by
      have := long_any B C [(a, xs), (b, ys)] W (by simp) h
      rw [show lg [(a, xs), (b, ys)] = max xs.length ys.length by simp [lg]] at this
      exact this
    have HY : Hid (∀ i, ys.getD i 0 < xs.getD i 0 → wi a xs b ys = false) := fun i h => wi_not h
    have HZ : Hid ((∀ i, i < max xs.length ys.length → xs.getD i 0 ≤ ys.getD i 0) → wi a xs b ys = true) := fun h => wi_yes (by omega) h
    have hm : max xs.length ys.length ≤ 1000 := by omega
    generalize hr : wi a xs b ys = r at *
    clear hr
    have BW : Below w.heap.size w ((w.alloc (.cells #[.int .i64 a, .slice A xs.length c] 30)).alloc (.cells #[.int .i64 b, .slice A' ys.length c'] 30)) := ((Below.refl _ _).alloc (Nat.le_refl _) _).alloc (by simp) _
    have Z0 : ((w.alloc (.cells #[.int .i64 a, .slice A xs.length c] 30)).alloc (.cells #[.int .i64 b, .slice A' ys.length c'] 30)).heap.size = w.heap.size + 1 + 1 := by simp
    have C0 : Rb ((w.alloc (.cells #[.int .i64 a, .slice A xs.length c] 30)).alloc (.cells #[.int .i64 b, .slice A' ys.length c'] 30)) w.heap.size a A xs.length c := (rb_new w a A xs.length c).on ((Below.refl _ _).alloc (Nat.le_refl _) _) (by simp)
    have D0 : Rb ((w.alloc (.cells #[.int .i64 a, .slice A xs.length c] 30)).alloc (.cells #[.int .i64 b, .slice A' ys.length c'] 30)) (w.heap.size + 1) b A' ys.length c' := by
      have := rb_new (w.alloc (.cells #[.int .i64 a, .slice A xs.length c] 30)) b A' ys.length c'
      rw [show (w.alloc (.cells #[.int .i64 a, .slice A xs.length c] 30)).heap.size = w.heap.size + 1 by simp] at this
      exact this
    have X0 := hx.to BW BW.size
    have Y0 := hy.to BW BW.size
    go_enter Try.func48, Try.ntmps48
    go_wp2
    go_region
    have BD : Below w.heap.size w ((w.alloc (.cells #[.int .i64 a, .slice A xs.length c] 30)).alloc (.cells #[.int .i64 b, .slice A' ys.length c'] 30)).drew := BW.drew
    have C1 := C0.on ((Below.refl w.heap.size.succ.succ ((w.alloc (.cells #[.int .i64 a, .slice A xs.length c] 30)).alloc (.cells #[.int .i64 b, .slice A' ys.length c'] 30))).drew) (by omega)
    have D1 := D0.on ((Below.refl w.heap.size.succ.succ ((w.alloc (.cells #[.int .i64 a, .slice A xs.length c] 30)).alloc (.cells #[.int .i64 b, .slice A' ys.length c'] 30))).drew) (by omega)
    have X1 := X0.up (Below.refl _ _).drew
    have Y1 := Y0.up (Below.refl _ _).drew
    have Z1 : Hid (((w.alloc (.cells #[.int .i64 a, .slice A xs.length c] 30)).alloc (.cells #[.int .i64 b, .slice A' ys.length c'] 30)).drew.heap.size = w.heap.size + 1 + 1) := by show _ = _; simp
    clear C0 D0 X0 Y0 Z0 BW
    generalize ((w.alloc (.cells #[.int .i64 a, .slice A xs.length c] 30)).alloc (.cells #[.int .i64 b, .slice A' ys.length c'] 30)).drew = W0 at *
    obtain ⟨p0, p1⟩ := C1
    obtain ⟨r0, r1⟩ := D1
    have RC : Rc (W0.alloc (.cells #[.int .i64 a, .slice A xs.length c, .int .i64 b, .slice A' ys.length c'] 30)) (W0.alloc (.cells #[.int .i64 a, .slice A xs.length c, .int .i64 b, .slice A' ys.length c'] 30)).heap.size (some ⟨W0.heap.size, 0, none⟩) [(a, xs), (b, ys)] := (rc_two X1 Y1).mono (by simp)
    have H1 := HL _ 2 _ RC
    clear RC HL
    go_wp2_with fail
    refine H1.out.mono ?_
    rintro e w1 ⟨rfl, B1⟩
    have BA : Below W0.heap.size W0 w1 := ((Below.refl _ _).alloc (Nat.le_refl _) _).trans (B1.mono (by simp))
    have XA := X1.up BA
    have YA := Y1.up BA
    have BE := BD.trans (BA.mono (by have := Z1.out; omega))
    have HO : ∀ k : Nat, k ≤ 1000 → Hid (Calls Try.prog 49 #[.slice A xs.length c, .int .i64 ((k : Int) + 1)] w1 fun e w' => e = .returned (.int .i64 (xs.getD k 0)) ∧ w1 = w') := fun k hk => by
      have := of_any A c w1.heap.size xs ((k : Int) + 1) w1 XA (by omega)
      rw [dp_at] at this
      exact this
    have HP : ∀ k : Nat, k ≤ 1000 → Hid (Calls Try.prog 49 #[.slice A' ys.length c', .int .i64 ((k : Int) + 1)] w1 fun e w' => e = .returned (.int .i64 (ys.getD k 0)) ∧ w1 = w') := fun k hk => by
      have := of_any A' c' w1.heap.size ys ((k : Int) + 1) w1 YA (by omega)
      rw [dp_at] at this
      exact this
    clear H1 p0 p1 r0 r1 X1 Y1 XA YA BA B1 BD hx hy
    generalize max xs.length ys.length = m at *
    go_wp2_with fail
    go_loopw [23] (fun i wr => ∃ k : Nat, k ≤ m ∧ i = .int .i64 (k : Int) ∧ wr = w1 ∧ ∀ i, i < k → xs.getD i 0 ≤ ys.getD i 0) (fun i _ => m - (intOf i).toNat)
    case atStart => exact ⟨0, by omega, rfl, rfl, fun i hi => by omega⟩
    case round =>
      obtain ⟨k, hk, rfl, rfl, hall⟩ := hrel
      have HA := Lib.hid hall
      clear hall
      by_cases hlt : k < m
      · have HOk := HO k (by omega)
        have HPk := HP k (by omega)
        have HYk := Lib.hid (HY.out k)
        have HX : Hid (xs.getD k 0 ≤ ys.getD k 0 → ∀ i, i < k + 1 → xs.getD i 0 ≤ ys.getD i 0) := fun q i hi => by
          rcases Nat.lt_or_ge i k with h | h
          · exact HA.out i h
          · obtain rfl : i = k := by omega
            exact q
        clear HO HP HY HA HZ
        generalize xs.getD k 0 = x at *
        generalize ys.getD k 0 = y at *
        by_cases hxy : y < x
        · go_wp2_with fail
          refine HOk.out.mono ?_
          rintro e w' ⟨rfl, rfl⟩
          go_wp2_with fail
          refine HPk.out.mono ?_
          rintro e w' ⟨rfl, rfl⟩
          go_wp2
          go_ret
          exact ⟨by rw [HYk.out hxy]; rfl, BE⟩
        · go_wp2_with fail
          refine HOk.out.mono ?_
          rintro e w' ⟨rfl, rfl⟩
          go_wp2_with fail
          refine HPk.out.mono ?_
          rintro e w' ⟨rfl, rfl⟩
          go_wp2
          go_roundw
          case rel => exact ⟨k + 1, by omega, by go_num, trivial, HX.out (by omega)⟩
          case measure => simp [intOf]; omega
      · obtain rfl : k = m := by omega
        have HZ' := Lib.hid (HZ.out HA.out)
        clear HO HP HY HA HZ
        go_wp2
        go_ret
        exact ⟨by rw [HZ'.out]; rfl, BE⟩

theorem keep2 {w0 v v' : World} {B1 B2 : Nat} {a b : Int} {A A' : Option Addr} {n n' c c' : Nat} (z1 : B1 < w0.heap.size) (z2 : B2 < w0.heap.size) (h : Rb v B1 a A n c ∧ Rb v B2 b A' n' c' ∧ Below w0.heap.size w0 v) (hb : Below w0.heap.size v v') : Rb v' B1 a A n c ∧ Rb v' B2 b A' n' c' ∧ Below w0.heap.size w0 v' :=
  ⟨h.1.on hb z1, h.2.1.on hb z2, h.2.2.trans hb⟩
theorem keepI {w0 v v' : World} {B1 B2 : Nat} {a x y : Int} {A : Option Addr} {n c : Nat} (z1 : B1 < w0.heap.size) (z2 : B2 < w0.heap.size) (h : Rb v B1 a A n c ∧ Ib v B2 x y ∧ Below w0.heap.size w0 v) (hb : Below w0.heap.size v v') : Rb v' B1 a A n c ∧ Ib v' B2 x y ∧ Below w0.heap.size w0 v' :=
  ⟨h.1.on hb z1, h.2.1.on hb z2, h.2.2.trans hb⟩

end Go.Proofs.Ytgmfjoegfbaebaa.At
