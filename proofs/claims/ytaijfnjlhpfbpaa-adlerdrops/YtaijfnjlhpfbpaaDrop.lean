/-
  The walks of adler.Drop and of the document's Join and Drop: they answer what 'jn' and 'dr' say. Conditions: numbers of 32 bits, a byte, an int.
-/
import Derived.Test.YtaijfnjlhpfbpaaJoin
namespace Go.Proofs.Ytaijfnjlhpfbpaa
open Go.RowKit
attribute [local go_sem ↓] Go.wp_at_zero Go.wp_at_succ

theorem prod_neg {k f : Int} (k0 : 0 ≤ k) (k1 : k < 65521) (f0 : 0 ≤ f) (f1 : f ≤ 255) : -16707855 ≤ -(k + 1) * f ∧ -(k + 1) * f ≤ 0 := by
  rw [Int.neg_mul]
  refine ⟨?_, ?_⟩
  · have := Int.mul_le_mul_of_nonneg_left f1 (by omega : (0 : Int) ≤ k + 1); omega
  · have := Int.mul_nonneg (by omega : (0 : Int) ≤ k + 1) f0; omega

theorem em0 (n : Int) : 0 ≤ n % 65521 := by omega
theorem em1 (n : Int) : n % 65521 < 65536 := by omega

set_option maxHeartbeats 1000000 in
theorem drop_any (a f n : Int) (w : World) (a0 : 0 ≤ a) (a1 : a < 4294967296) (f0 : 0 ≤ f) (f1 : f ≤ 255) (n0 : -9223372036854775808 ≤ n) (n1 : n ≤ 9223372036854775807) :
    Calls Try.prog 17 #[.int .u32 a, .int .u8 f, .int .i64 n] w (U32Post w (dr a f n)) := by
  have HA := Lib.hid (split_any a w a0 a1)
  have HC : ∀ W, Hid (Calls Try.prog 24 #[.int .i64 n] W fun e w' => e = .returned (.int .i64 (cut0 n % 65521)) ∧ W = w') := fun W => count_any n W n0 n1
  have x0 : 0 ≤ a % 65536 := by omega
  have x1 : a % 65536 < 65536 := by omega
  have y0 : 0 ≤ a / 65536 := by omega
  have y1 : a / 65536 < 65536 := by omega
  have k0 : 0 ≤ cut0 n % 65521 := by omega
  have k1 : cut0 n % 65521 < 65521 := by omega
  have HJ := Lib.hid (show dr a f n = wh (a % 65536 - f) (a / 65536 - 1 - (cut0 n % 65521 + 1) * f) from rfl)
  generalize dr a f n = z at *
  generalize a % 65536 = x at *
  generalize a / 65536 = y at *
  generalize cut0 n % 65521 = k at *
  obtain ⟨p0, p1⟩ := prod_neg k0 k1 f0 f1
  have Q1 := Lib.hid (IntWalk.i64_in (-f) (by omega))
  have Q2 := Lib.hid (IntWalk.i64_in (k + 1) (by omega))
  have Q3 := Lib.hid (IntWalk.i64_in (-(k + 1)) (by omega))
  have Q4 := Lib.hid (IntWalk.i64_in (-(k + 1) * f) (by omega))
  have bx0 : -4611686018427387904 ≤ x := by omega
  have bx1 : x ≤ 4611686018427387904 := by omega
  have bf0 : -4611686018427387904 ≤ -f := by omega
  have bf1 : -f ≤ 4611686018427387904 := by omega
  have by0 : -4611686018427387904 ≤ y := by omega
  have by1 : y ≤ 4611686018427387904 := by omega
  have bp0 : -4611686018427387904 ≤ -(k + 1) * f := by omega
  have bp1 : -(k + 1) * f ≤ 4611686018427387904 := by omega
  have bn0 : (-4611686018427387904 : Int) ≤ -1 := by decide
  have bn1 : (-1 : Int) ≤ 4611686018427387904 := by decide
  go_enter Try.func17, Try.ntmps17
  go_wp2_with fail
  refine HA.out.mono ?_
  rintro e w1 ⟨rfl, hb1⟩
  go_wp2_with fail
  have q1 := Q1.out
  have q2 := Q2.out
  have q3 := Q3.out
  have q4 := Q4.out
  go_region_held3 (fun v' => v'.cell? ⟨w1.heap.size, 0, none⟩ = some (.int .i64 x) ∧ v'.cell? ⟨w1.heap.size, 1, none⟩ = some (.int .i64 y)) (first | (go_keep; done) | (((refine ⟨?_, ?_⟩) <;> simp [go_sem]); done))
    (first | (go_at_call 24; refine (HC _).out.mono ?_; rintro e w' ⟨rfl, rfl⟩) | (go_at_call 19; (with_reducible refine (half2 _ 2 x (-f) _ ?_ ?_ bx0 bx1 bf0 bf1).mono ?_); (focus (simp [go_sem]; done)); (focus (simp [go_sem]; done)); rintro e w' ⟨rfl, rfl⟩) | (go_at_call 19; (with_reducible refine (half3 _ 3 y (-1) (-(k + 1) * f) _ ?_ ?_ ?_ by0 by1 bn0 bn1 bp0 bp1).mono ?_); (focus (simp [go_sem]; done)); (focus (simp [go_sem]; done)); (focus (simp [go_sem]; done)); rintro e w' ⟨rfl, rfl⟩) | (go_at_call 20; refine (whole_at _ _ _ (em0 _) (em1 _) (em0 _) (em1 _)).mono ?_; rintro e w3 ⟨rfl, rfl⟩))
  all_goals
    clear q1 q2 q3 q4
    go_wp2
    go_ret
    refine ⟨ret_int ?_, ?_⟩
    · rw [HJ.out, show y - 1 - (k + 1) * f = y + -1 + -(k + 1) * f by rw [Int.neg_mul]; omega]; rfl
    · have hz := hb1.size
      exact ((((hb1.alloc hz _).alloc (by simp; omega) _).alloc (by simp; omega) _).alloc (by simp; omega) _).drew

theorem pos_bd {k x : Int} (k0 : 0 ≤ k) (k1 : k < 65521) (x0 : 0 ≤ x) (x1 : x ≤ 65536) : 0 ≤ k * x ∧ k * x ≤ 4294049777 := by
  refine ⟨Int.mul_nonneg k0 x0, ?_⟩
  have := Int.mul_le_mul_of_nonneg_left x1 k0; omega

set_option maxHeartbeats 400000 in
theorem rjoin_any (a b n : Int) (w : World) (a0 : 0 ≤ a) (a1 : a < 4294967296) (b0 : 0 ≤ b) (b1 : b < 4294967296) (n0 : -9223372036854775808 ≤ n) (n1 : n ≤ 9223372036854775807) :
    Calls Try.prog 16 #[.int .u32 a, .int .u32 b, .int .i64 n] w (IntPost w .u32 (jn a b n)) := by
  have x0 : 0 ≤ a % 65536 := by omega
  have x1 : a % 65536 < 65536 := by omega
  have y0 : 0 ≤ a / 65536 := by omega
  have y1 : a / 65536 < 65536 := by omega
  have u0 : 0 ≤ b % 65536 := by omega
  have u1 : b % 65536 < 65536 := by omega
  have v0 : 0 ≤ b / 65536 := by omega
  have v1 : b / 65536 < 65536 := by omega
  have HJ := Lib.hid (show jn a b n = wh (a % 65536 + b % 65536 - 1) (a / 65536 + b / 65536 + (cut0 n % 65521) * (a % 65536 - 1)) from rfl)
  generalize jn a b n = z at *
  generalize hx : a % 65536 = x at *
  generalize hy : a / 65536 = y at *
  generalize hu : b % 65536 = u at *
  generalize hv : b / 65536 = v at *
  have k0 : 0 ≤ cut0 n % 65521 := by omega
  have k1 : cut0 n % 65521 < 65521 := by omega
  obtain ⟨m, hm⟩ : ∃ m, (x - 1) % 65521 = m := ⟨_, rfl⟩
  have m0 : 0 ≤ m := by omega
  have m1 : m < 65521 := by omega
  obtain ⟨p0, p1⟩ := pos_bd k0 k1 m0 (by omega)
  have HZ : Hid (z = wh (x + u - 1) (y + v + cut0 n % 65521 * m)) := by
    show z = _
    rw [HJ.out, ← hm]
    exact wh_cg rfl (cg_add rfl (cg_mul rfl (cg_self _).symm))
  have CM : ∀ W, Hid (Calls Try.prog 21 #[.int .i64 (x - 1)] W fun e w' => e = .returned (.int .i64 m) ∧ W = w') := fun W => by rw [← hm]; exact modulo_any _ W (by omega) (by omega)
  have CW : ∀ W, Hid (Calls Try.prog 22 #[.int .i64 (x + u - 1), .int .i64 (y + v + cut0 n % 65521 * m)] W fun e w' => e = .returned (.int .u32 z) ∧ W = w') := fun W => by rw [HZ.out]; exact rwhole_any _ _ W (by omega) (by omega) (by omega) (by omega)
  have HX := Lib.hid hx
  have HY := Lib.hid hy
  have HU := Lib.hid hu
  have HV := Lib.hid hv
  have HMM := Lib.hid hm
  clear hx hy hu hv hm
  by_cases h : n < 0
  · have CN : ∀ W, Hid (Calls Try.prog 21 #[.int .i64 0] W fun e w' => e = .returned (.int .i64 (cut0 n % 65521)) ∧ W = w') := fun W => by rw [cut0, if_pos h]; exact modulo_any _ W (by omega) (by omega)
    generalize cut0 n % 65521 = k at *
    go_enter Try.func16, Try.ntmps16
    go_wp2_with fail
    refine (CN _).out.mono ?_
    rintro e w' ⟨rfl, rfl⟩
    rw [HX.out, HY.out, HU.out, HV.out]
    go_wp2_with fail
    refine (CM _).out.mono ?_
    rintro e w' ⟨rfl, rfl⟩
    go_wp2_with fail
    refine (CW _).out.mono ?_
    rintro e w' ⟨rfl, rfl⟩
    go_wp2
    go_ret
    exact ⟨rfl, rfl⟩
  · have CN : ∀ W, Hid (Calls Try.prog 21 #[.int .i64 n] W fun e w' => e = .returned (.int .i64 (cut0 n % 65521)) ∧ W = w') := fun W => by rw [cut0, if_neg h]; exact modulo_any _ W (by omega) (by omega)
    generalize cut0 n % 65521 = k at *
    go_enter Try.func16, Try.ntmps16
    go_wp2_with fail
    refine (CN _).out.mono ?_
    rintro e w' ⟨rfl, rfl⟩
    rw [HX.out, HY.out, HU.out, HV.out]
    go_wp2_with fail
    refine (CM _).out.mono ?_
    rintro e w' ⟨rfl, rfl⟩
    go_wp2_with fail
    refine (CW _).out.mono ?_
    rintro e w' ⟨rfl, rfl⟩
    go_wp2
    go_ret
    exact ⟨rfl, rfl⟩

theorem pos_small {k f : Int} (k0 : 0 ≤ k) (k1 : k < 65521) (f0 : 0 ≤ f) (f1 : f ≤ 255) : 0 ≤ k * f ∧ k * f ≤ 16707855 := by
  refine ⟨Int.mul_nonneg k0 f0, ?_⟩
  have := Int.mul_le_mul_of_nonneg_left f1 k0; omega

set_option maxHeartbeats 400000 in
theorem rdrop_any (a f n : Int) (w : World) (a0 : 0 ≤ a) (a1 : a < 4294967296) (f0 : 0 ≤ f) (f1 : f ≤ 255) (n0 : -9223372036854775808 ≤ n) (n1 : n ≤ 9223372036854775807) :
    Calls Try.prog 18 #[.int .u32 a, .int .u8 f, .int .i64 n] w (IntPost w .u32 (dr a f n)) := by
  have x0 : 0 ≤ a % 65536 := by omega
  have x1 : a % 65536 < 65536 := by omega
  have y0 : 0 ≤ a / 65536 := by omega
  have y1 : a / 65536 < 65536 := by omega
  have HJ := Lib.hid (show dr a f n = wh (a % 65536 - f) (a / 65536 - 1 - (cut0 n % 65521 + 1) * f) from rfl)
  generalize dr a f n = z at *
  generalize hx : a % 65536 = x at *
  generalize hy : a / 65536 = y at *
  have k0 : 0 ≤ cut0 n % 65521 := by omega
  have k1 : cut0 n % 65521 < 65521 := by omega
  obtain ⟨m, hm⟩ : ∃ m, (cut0 n % 65521 + 1) % 65521 = m := ⟨_, rfl⟩
  have m0 : 0 ≤ m := by omega
  have m1 : m < 65521 := by omega
  obtain ⟨p0, p1⟩ := pos_small m0 m1 f0 f1
  have HZ : Hid (z = wh (x - f) (y - 1 - m * f)) := by
    show z = _
    rw [HJ.out, ← hm]
    exact wh_cg rfl (cg_sub rfl (cg_mul (cg_self _).symm rfl))
  have CM : ∀ W, Hid (Calls Try.prog 21 #[.int .i64 (cut0 n % 65521 + 1)] W fun e w' => e = .returned (.int .i64 m) ∧ W = w') := fun W => by rw [← hm]; exact modulo_any _ W (by omega) (by omega)
  have CW : ∀ W, Hid (Calls Try.prog 22 #[.int .i64 (x - f), .int .i64 (y - 1 - m * f)] W fun e w' => e = .returned (.int .u32 z) ∧ W = w') := fun W => by rw [HZ.out]; exact rwhole_any _ _ W (by omega) (by omega) (by omega) (by omega)
  have HX := Lib.hid hx
  have HY := Lib.hid hy
  have HMM := Lib.hid hm
  clear hx hy hm
  by_cases h : n < 0
  · have CN : ∀ W, Hid (Calls Try.prog 21 #[.int .i64 0] W fun e w' => e = .returned (.int .i64 (cut0 n % 65521)) ∧ W = w') := fun W => by rw [cut0, if_pos h]; exact modulo_any _ W (by omega) (by omega)
    generalize cut0 n % 65521 = k at *
    go_enter Try.func18, Try.ntmps18
    go_wp2_with fail
    refine (CN _).out.mono ?_
    rintro e w' ⟨rfl, rfl⟩
    rw [HX.out, HY.out]
    go_wp2_with fail
    refine (CM _).out.mono ?_
    rintro e w' ⟨rfl, rfl⟩
    go_wp2_with fail
    refine (CW _).out.mono ?_
    rintro e w' ⟨rfl, rfl⟩
    go_wp2
    go_ret
    exact ⟨rfl, rfl⟩
  · have CN : ∀ W, Hid (Calls Try.prog 21 #[.int .i64 n] W fun e w' => e = .returned (.int .i64 (cut0 n % 65521)) ∧ W = w') := fun W => by rw [cut0, if_neg h]; exact modulo_any _ W (by omega) (by omega)
    generalize cut0 n % 65521 = k at *
    go_enter Try.func18, Try.ntmps18
    go_wp2_with fail
    refine (CN _).out.mono ?_
    rintro e w' ⟨rfl, rfl⟩
    rw [HX.out, HY.out]
    go_wp2_with fail
    refine (CM _).out.mono ?_
    rintro e w' ⟨rfl, rfl⟩
    go_wp2_with fail
    refine (CW _).out.mono ?_
    rintro e w' ⟨rfl, rfl⟩
    go_wp2
    go_ret
    exact ⟨rfl, rfl⟩

end Go.Proofs.Ytaijfnjlhpfbpaa
