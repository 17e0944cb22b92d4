/-
  The walks of Open, the program's and the document's: a channel newly opened. No conditions.
-/
import Derived.Test.YtpelopfbdfnmeaaJo
namespace Go.Proofs.Ytpelopfbdfnmeaa
open Go.RowKit
set_option linter.unusedVariables false

set_option maxHeartbeats 1000000 in
theorem open_arg (a n : Int) (w : World) (hm : mb a n [n] = false) : Calls Try.prog 13 #[.int .i64 a, .int .i64 n] w (ChPost w (Ch.none, 1)) := by
  have BW : Below w.heap.size w (((w.alloc (.cells #[.int .i64 0, .int .i64 0, .slice none 0 0] 24)).alloc (.cells #[.int .i64 n] 3)).alloc (.cells #[.int .i64 a, .int .i64 n, .slice (some ⟨w.heap.size + 1, 0, none⟩) 1 1] 24)) := (((Below.refl _ _).alloc (Nat.le_refl _) _).alloc (by simp) _).alloc (by simp; omega) _
  have X0 : Cx (((w.alloc (.cells #[.int .i64 0, .int .i64 0, .slice none 0 0] 24)).alloc (.cells #[.int .i64 n] 3)).alloc (.cells #[.int .i64 a, .int .i64 n, .slice (some ⟨w.heap.size + 1, 0, none⟩) 1 1] 24)) w.heap.size 0 0 none 0 0 := ((cx_new w 0 0 none 0 0).old _).old _
  have z1 : (w.alloc (.cells #[.int .i64 0, .int .i64 0, .slice none 0 0] 24)).heap.size = w.heap.size + 1 := by simp
  have z2 : ((w.alloc (.cells #[.int .i64 0, .int .i64 0, .slice none 0 0] 24)).alloc (.cells #[.int .i64 n] 3)).heap.size = w.heap.size + 2 := by simp
  have R0 : Rx (((w.alloc (.cells #[.int .i64 0, .int .i64 0, .slice none 0 0] 24)).alloc (.cells #[.int .i64 n] 3)).alloc (.cells #[.int .i64 a, .int .i64 n, .slice (some ⟨w.heap.size + 1, 0, none⟩) 1 1] 24)) (w.heap.size + 1) [n] := by
    have h : Rx ((w.alloc (.cells #[.int .i64 0, .int .i64 0, .slice none 0 0] 24)).alloc (.cells #[.int .i64 n] 3)) (w.alloc (.cells #[.int .i64 0, .int .i64 0, .slice none 0 0] 24)).heap.size [n] := heap_alloc_new (w.alloc (.cells #[.int .i64 0, .int .i64 0, .slice none 0 0] 24)) (.cells #[.int .i64 n] 3)
    rw [z1] at h
    exact h.old _
  have C0 : Cx (((w.alloc (.cells #[.int .i64 0, .int .i64 0, .slice none 0 0] 24)).alloc (.cells #[.int .i64 n] 3)).alloc (.cells #[.int .i64 a, .int .i64 n, .slice (some ⟨w.heap.size + 1, 0, none⟩) 1 1] 24)) (w.heap.size + 2) a n (some ⟨w.heap.size + 1, 0, none⟩) 1 1 := by
    have := cx_new ((w.alloc (.cells #[.int .i64 0, .int .i64 0, .slice none 0 0] 24)).alloc (.cells #[.int .i64 n] 3)) a n (some ⟨w.heap.size + 1, 0, none⟩) 1 1
    rw [z2] at this
    exact this
  have HM : Hid (Calls Try.prog 16 #[.agg #[.int .i64 a, .int .i64 n, .slice (some ⟨w.heap.size + 1, 0, none⟩) 1 1]] (((w.alloc (.cells #[.int .i64 0, .int .i64 0, .slice none 0 0] 24)).alloc (.cells #[.int .i64 n] 3)).alloc (.cells #[.int .i64 a, .int .i64 n, .slice (some ⟨w.heap.size + 1, 0, none⟩) 1 1] 24)) (BoolPost (((w.alloc (.cells #[.int .i64 0, .int .i64 0, .slice none 0 0] 24)).alloc (.cells #[.int .i64 n] 3)).alloc (.cells #[.int .i64 a, .int .i64 n, .slice (some ⟨w.heap.size + 1, 0, none⟩) 1 1] 24)) (mb a n [n]))) := may_any a n (some ⟨w.heap.size + 1, 0, none⟩) 1 [n] _ (by simp) R0.sl
  have Z0 : (((w.alloc (.cells #[.int .i64 0, .int .i64 0, .slice none 0 0] 24)).alloc (.cells #[.int .i64 n] 3)).alloc (.cells #[.int .i64 a, .int .i64 n, .slice (some ⟨w.heap.size + 1, 0, none⟩) 1 1] 24)).heap.size = w.heap.size + 3 := by simp
  obtain ⟨p0, p1, p2⟩ := C0.cb
  rw [hm] at HM
  go_enter Try.func13, Try.ntmps13
  go_wp2_with fail
  generalize (((w.alloc (.cells #[.int .i64 0, .int .i64 0, .slice none 0 0] 24)).alloc (.cells #[.int .i64 n] 3)).alloc (.cells #[.int .i64 a, .int .i64 n, .slice (some ⟨w.heap.size + 1, 0, none⟩) 1 1] 24)) = W0 at *
  clear p0 p1 p2
  refine HM.out.mono ?_
  rintro e w1 ⟨rfl, B1⟩
  have BE := BW.trans (B1.mono BW.size)
  have C1 := C0.on B1 C0.lt
  have X1 := X0.on B1 X0.lt
  have R1 := R0.on B1 R0.lt
  obtain ⟨p0, p1, p2⟩ := C1.cb
  obtain ⟨q0, q1, q2⟩ := X1.cb
  have f0 := X1.free 0
  have f1 := X1.free 1
  have f2 := X1.free 2
  go_wp2_with fail
  exact bodyPost_ret (run_res13 (B := w.heap.size) rfl rfl (X1.put 0 0 none 0 0).cb) rfl ⟨none, 0, rfl, Nat.le_refl _, .nil, put_below _ BE (Nat.le_refl _) _ _ _⟩

set_option maxHeartbeats 1000000 in
theorem open_ok (a n : Int) (w : World) (hm : mb a n [n] = true) : Calls Try.prog 13 #[.int .i64 a, .int .i64 n] w (ChPost w (⟨a, n, [n]⟩, 0)) := by
  have BW : Below w.heap.size w (((w.alloc (.cells #[.int .i64 0, .int .i64 0, .slice none 0 0] 24)).alloc (.cells #[.int .i64 n] 3)).alloc (.cells #[.int .i64 a, .int .i64 n, .slice (some ⟨w.heap.size + 1, 0, none⟩) 1 1] 24)) := (((Below.refl _ _).alloc (Nat.le_refl _) _).alloc (by simp) _).alloc (by simp; omega) _
  have X0 : Cx (((w.alloc (.cells #[.int .i64 0, .int .i64 0, .slice none 0 0] 24)).alloc (.cells #[.int .i64 n] 3)).alloc (.cells #[.int .i64 a, .int .i64 n, .slice (some ⟨w.heap.size + 1, 0, none⟩) 1 1] 24)) w.heap.size 0 0 none 0 0 := ((cx_new w 0 0 none 0 0).old _).old _
  have z1 : (w.alloc (.cells #[.int .i64 0, .int .i64 0, .slice none 0 0] 24)).heap.size = w.heap.size + 1 := by simp
  have z2 : ((w.alloc (.cells #[.int .i64 0, .int .i64 0, .slice none 0 0] 24)).alloc (.cells #[.int .i64 n] 3)).heap.size = w.heap.size + 2 := by simp
  have R0 : Rx (((w.alloc (.cells #[.int .i64 0, .int .i64 0, .slice none 0 0] 24)).alloc (.cells #[.int .i64 n] 3)).alloc (.cells #[.int .i64 a, .int .i64 n, .slice (some ⟨w.heap.size + 1, 0, none⟩) 1 1] 24)) (w.heap.size + 1) [n] := by
    have h : Rx ((w.alloc (.cells #[.int .i64 0, .int .i64 0, .slice none 0 0] 24)).alloc (.cells #[.int .i64 n] 3)) (w.alloc (.cells #[.int .i64 0, .int .i64 0, .slice none 0 0] 24)).heap.size [n] := heap_alloc_new (w.alloc (.cells #[.int .i64 0, .int .i64 0, .slice none 0 0] 24)) (.cells #[.int .i64 n] 3)
    rw [z1] at h
    exact h.old _
  have C0 : Cx (((w.alloc (.cells #[.int .i64 0, .int .i64 0, .slice none 0 0] 24)).alloc (.cells #[.int .i64 n] 3)).alloc (.cells #[.int .i64 a, .int .i64 n, .slice (some ⟨w.heap.size + 1, 0, none⟩) 1 1] 24)) (w.heap.size + 2) a n (some ⟨w.heap.size + 1, 0, none⟩) 1 1 := by
    have := cx_new ((w.alloc (.cells #[.int .i64 0, .int .i64 0, .slice none 0 0] 24)).alloc (.cells #[.int .i64 n] 3)) a n (some ⟨w.heap.size + 1, 0, none⟩) 1 1
    rw [z2] at this
    exact this
  have HM : Hid (Calls Try.prog 16 #[.agg #[.int .i64 a, .int .i64 n, .slice (some ⟨w.heap.size + 1, 0, none⟩) 1 1]] (((w.alloc (.cells #[.int .i64 0, .int .i64 0, .slice none 0 0] 24)).alloc (.cells #[.int .i64 n] 3)).alloc (.cells #[.int .i64 a, .int .i64 n, .slice (some ⟨w.heap.size + 1, 0, none⟩) 1 1] 24)) (BoolPost (((w.alloc (.cells #[.int .i64 0, .int .i64 0, .slice none 0 0] 24)).alloc (.cells #[.int .i64 n] 3)).alloc (.cells #[.int .i64 a, .int .i64 n, .slice (some ⟨w.heap.size + 1, 0, none⟩) 1 1] 24)) (mb a n [n]))) := may_any a n (some ⟨w.heap.size + 1, 0, none⟩) 1 [n] _ (by simp) R0.sl
  have Z0 : (((w.alloc (.cells #[.int .i64 0, .int .i64 0, .slice none 0 0] 24)).alloc (.cells #[.int .i64 n] 3)).alloc (.cells #[.int .i64 a, .int .i64 n, .slice (some ⟨w.heap.size + 1, 0, none⟩) 1 1] 24)).heap.size = w.heap.size + 3 := by simp
  obtain ⟨p0, p1, p2⟩ := C0.cb
  rw [hm] at HM
  go_enter Try.func13, Try.ntmps13
  go_wp2_with fail
  generalize (((w.alloc (.cells #[.int .i64 0, .int .i64 0, .slice none 0 0] 24)).alloc (.cells #[.int .i64 n] 3)).alloc (.cells #[.int .i64 a, .int .i64 n, .slice (some ⟨w.heap.size + 1, 0, none⟩) 1 1] 24)) = W0 at *
  clear p0 p1 p2
  refine HM.out.mono ?_
  rintro e w1 ⟨rfl, B1⟩
  have BE := BW.trans (B1.mono BW.size)
  have C1 := C0.on B1 C0.lt
  have X1 := X0.on B1 X0.lt
  have R1 := R0.on B1 R0.lt
  have F1 := R1.fr (Nat.le_refl _)
  obtain ⟨p0, p1, p2⟩ := C1.cb
  obtain ⟨q0, q1, q2⟩ := X1.cb
  have f0 := X1.free 0
  have f1 := X1.free 1
  have f2 := X1.free 2
  go_wp2_with fail
  exact bodyPost_ret (run_res13 (B := w.heap.size) rfl rfl (X1.put a n (some ⟨w.heap.size + 1, 0, none⟩) 1 1).cb) rfl ⟨some ⟨w.heap.size + 1, 0, none⟩, 1, rfl, Nat.le_refl _, (((F1.set _ (by show w.heap.size < w.heap.size + 1; omega) _).set _ (by show w.heap.size < w.heap.size + 1; omega) _).set _ (by show w.heap.size < w.heap.size + 1; omega) _).low (by omega), put_below _ BE (Nat.le_refl _) _ _ _⟩

theorem open_any (a n : Int) (w : World) : Calls Try.prog 13 #[.int .i64 a, .int .i64 n] w (ChPost w (opens a n)) := by
  unfold opens
  by_cases hm : mb a n [n] = true
  · rw [if_pos (mb_iff.1 hm)]; exact open_ok a n w hm
  · rw [if_neg (fun q => hm (mb_iff.2 q))]; exact open_arg a n w (by simpa using hm)

set_option maxHeartbeats 1000000 in
theorem ropen_arg (a n : Int) (w : World) (hm : mb a n [n] = false) : Calls Try.prog 14 #[.int .i64 a, .int .i64 n] w (ChPost w (Ch.none, 1)) := by
  have BW : Below w.heap.size w (((w.alloc (.cells #[.int .i64 0, .int .i64 0, .slice none 0 0] 24)).alloc (.cells #[.int .i64 n] 3)).alloc (.cells #[.int .i64 a, .int .i64 n, .slice (some ⟨w.heap.size + 1, 0, none⟩) 1 1] 24)) := (((Below.refl _ _).alloc (Nat.le_refl _) _).alloc (by simp) _).alloc (by simp; omega) _
  have X0 : Cx (((w.alloc (.cells #[.int .i64 0, .int .i64 0, .slice none 0 0] 24)).alloc (.cells #[.int .i64 n] 3)).alloc (.cells #[.int .i64 a, .int .i64 n, .slice (some ⟨w.heap.size + 1, 0, none⟩) 1 1] 24)) w.heap.size 0 0 none 0 0 := ((cx_new w 0 0 none 0 0).old _).old _
  have z1 : (w.alloc (.cells #[.int .i64 0, .int .i64 0, .slice none 0 0] 24)).heap.size = w.heap.size + 1 := by simp
  have z2 : ((w.alloc (.cells #[.int .i64 0, .int .i64 0, .slice none 0 0] 24)).alloc (.cells #[.int .i64 n] 3)).heap.size = w.heap.size + 2 := by simp
  have R0 : Rx (((w.alloc (.cells #[.int .i64 0, .int .i64 0, .slice none 0 0] 24)).alloc (.cells #[.int .i64 n] 3)).alloc (.cells #[.int .i64 a, .int .i64 n, .slice (some ⟨w.heap.size + 1, 0, none⟩) 1 1] 24)) (w.heap.size + 1) [n] := by
    have h : Rx ((w.alloc (.cells #[.int .i64 0, .int .i64 0, .slice none 0 0] 24)).alloc (.cells #[.int .i64 n] 3)) (w.alloc (.cells #[.int .i64 0, .int .i64 0, .slice none 0 0] 24)).heap.size [n] := heap_alloc_new (w.alloc (.cells #[.int .i64 0, .int .i64 0, .slice none 0 0] 24)) (.cells #[.int .i64 n] 3)
    rw [z1] at h
    exact h.old _
  have C0 : Cx (((w.alloc (.cells #[.int .i64 0, .int .i64 0, .slice none 0 0] 24)).alloc (.cells #[.int .i64 n] 3)).alloc (.cells #[.int .i64 a, .int .i64 n, .slice (some ⟨w.heap.size + 1, 0, none⟩) 1 1] 24)) (w.heap.size + 2) a n (some ⟨w.heap.size + 1, 0, none⟩) 1 1 := by
    have := cx_new ((w.alloc (.cells #[.int .i64 0, .int .i64 0, .slice none 0 0] 24)).alloc (.cells #[.int .i64 n] 3)) a n (some ⟨w.heap.size + 1, 0, none⟩) 1 1
    rw [z2] at this
    exact this
  have HM : Hid (Calls Try.prog 17 #[.agg #[.int .i64 a, .int .i64 n, .slice (some ⟨w.heap.size + 1, 0, none⟩) 1 1]] (((w.alloc (.cells #[.int .i64 0, .int .i64 0, .slice none 0 0] 24)).alloc (.cells #[.int .i64 n] 3)).alloc (.cells #[.int .i64 a, .int .i64 n, .slice (some ⟨w.heap.size + 1, 0, none⟩) 1 1] 24)) (BoolPost (((w.alloc (.cells #[.int .i64 0, .int .i64 0, .slice none 0 0] 24)).alloc (.cells #[.int .i64 n] 3)).alloc (.cells #[.int .i64 a, .int .i64 n, .slice (some ⟨w.heap.size + 1, 0, none⟩) 1 1] 24)) (mb a n [n]))) := rmay_any a n (some ⟨w.heap.size + 1, 0, none⟩) 1 [n] _ (by simp) R0.sl
  have Z0 : (((w.alloc (.cells #[.int .i64 0, .int .i64 0, .slice none 0 0] 24)).alloc (.cells #[.int .i64 n] 3)).alloc (.cells #[.int .i64 a, .int .i64 n, .slice (some ⟨w.heap.size + 1, 0, none⟩) 1 1] 24)).heap.size = w.heap.size + 3 := by simp
  obtain ⟨p0, p1, p2⟩ := C0.cb
  rw [hm] at HM
  go_enter Try.func14, Try.ntmps14
  go_wp2_with fail
  generalize (((w.alloc (.cells #[.int .i64 0, .int .i64 0, .slice none 0 0] 24)).alloc (.cells #[.int .i64 n] 3)).alloc (.cells #[.int .i64 a, .int .i64 n, .slice (some ⟨w.heap.size + 1, 0, none⟩) 1 1] 24)) = W0 at *
  clear p0 p1 p2
  refine HM.out.mono ?_
  rintro e w1 ⟨rfl, B1⟩
  have BE := BW.trans (B1.mono BW.size)
  have C1 := C0.on B1 C0.lt
  have X1 := X0.on B1 X0.lt
  have R1 := R0.on B1 R0.lt
  obtain ⟨p0, p1, p2⟩ := C1.cb
  obtain ⟨q0, q1, q2⟩ := X1.cb
  have f0 := X1.free 0
  have f1 := X1.free 1
  have f2 := X1.free 2
  go_wp2_with fail
  exact bodyPost_ret (run_res14 (B := w.heap.size) rfl rfl (X1.put 0 0 none 0 0).cb) rfl ⟨none, 0, rfl, Nat.le_refl _, .nil, put_below _ BE (Nat.le_refl _) _ _ _⟩

set_option maxHeartbeats 1000000 in
theorem ropen_ok (a n : Int) (w : World) (hm : mb a n [n] = true) : Calls Try.prog 14 #[.int .i64 a, .int .i64 n] w (ChPost w (⟨a, n, [n]⟩, 0)) := by
  have BW : Below w.heap.size w (((w.alloc (.cells #[.int .i64 0, .int .i64 0, .slice none 0 0] 24)).alloc (.cells #[.int .i64 n] 3)).alloc (.cells #[.int .i64 a, .int .i64 n, .slice (some ⟨w.heap.size + 1, 0, none⟩) 1 1] 24)) := (((Below.refl _ _).alloc (Nat.le_refl _) _).alloc (by simp) _).alloc (by simp; omega) _
  have X0 : Cx (((w.alloc (.cells #[.int .i64 0, .int .i64 0, .slice none 0 0] 24)).alloc (.cells #[.int .i64 n] 3)).alloc (.cells #[.int .i64 a, .int .i64 n, .slice (some ⟨w.heap.size + 1, 0, none⟩) 1 1] 24)) w.heap.size 0 0 none 0 0 := ((cx_new w 0 0 none 0 0).old _).old _
  have z1 : (w.alloc (.cells #[.int .i64 0, .int .i64 0, .slice none 0 0] 24)).heap.size = w.heap.size + 1 := by simp
  have z2 : ((w.alloc (.cells #[.int .i64 0, .int .i64 0, .slice none 0 0] 24)).alloc (.cells #[.int .i64 n] 3)).heap.size = w.heap.size + 2 := by simp
  have R0 : Rx (((w.alloc (.cells #[.int .i64 0, .int .i64 0, .slice none 0 0] 24)).alloc (.cells #[.int .i64 n] 3)).alloc (.cells #[.int .i64 a, .int .i64 n, .slice (some ⟨w.heap.size + 1, 0, none⟩) 1 1] 24)) (w.heap.size + 1) [n] := by
    have h : Rx ((w.alloc (.cells #[.int .i64 0, .int .i64 0, .slice none 0 0] 24)).alloc (.cells #[.int .i64 n] 3)) (w.alloc (.cells #[.int .i64 0, .int .i64 0, .slice none 0 0] 24)).heap.size [n] := heap_alloc_new (w.alloc (.cells #[.int .i64 0, .int .i64 0, .slice none 0 0] 24)) (.cells #[.int .i64 n] 3)
    rw [z1] at h
    exact h.old _
  have C0 : Cx (((w.alloc (.cells #[.int .i64 0, .int .i64 0, .slice none 0 0] 24)).alloc (.cells #[.int .i64 n] 3)).alloc (.cells #[.int .i64 a, .int .i64 n, .slice (some ⟨w.heap.size + 1, 0, none⟩) 1 1] 24)) (w.heap.size + 2) a n (some ⟨w.heap.size + 1, 0, none⟩) 1 1 := by
    have := cx_new ((w.alloc (.cells #[.int .i64 0, .int .i64 0, .slice none 0 0] 24)).alloc (.cells #[.int .i64 n] 3)) a n (some ⟨w.heap.size + 1, 0, none⟩) 1 1
    rw [z2] at this
    exact this
  have HM : Hid (Calls Try.prog 17 #[.agg #[.int .i64 a, .int .i64 n, .slice (some ⟨w.heap.size + 1, 0, none⟩) 1 1]] (((w.alloc (.cells #[.int .i64 0, .int .i64 0, .slice none 0 0] 24)).alloc (.cells #[.int .i64 n] 3)).alloc (.cells #[.int .i64 a, .int .i64 n, .slice (some ⟨w.heap.size + 1, 0, none⟩) 1 1] 24)) (BoolPost (((w.alloc (.cells #[.int .i64 0, .int .i64 0, .slice none 0 0] 24)).alloc (.cells #[.int .i64 n] 3)).alloc (.cells #[.int .i64 a, .int .i64 n, .slice (some ⟨w.heap.size + 1, 0, none⟩) 1 1] 24)) (mb a n [n]))) := rmay_any a n (some ⟨w.heap.size + 1, 0, none⟩) 1 [n] _ (by simp) R0.sl
  have Z0 : (((w.alloc (.cells #[.int .i64 0, .int .i64 0, .slice none 0 0] 24)).alloc (.cells #[.int .i64 n] 3)).alloc (.cells #[.int .i64 a, .int .i64 n, .slice (some ⟨w.heap.size + 1, 0, none⟩) 1 1] 24)).heap.size = w.heap.size + 3 := by simp
  obtain ⟨p0, p1, p2⟩ := C0.cb
  rw [hm] at HM
  go_enter Try.func14, Try.ntmps14
  go_wp2_with fail
  generalize (((w.alloc (.cells #[.int .i64 0, .int .i64 0, .slice none 0 0] 24)).alloc (.cells #[.int .i64 n] 3)).alloc (.cells #[.int .i64 a, .int .i64 n, .slice (some ⟨w.heap.size + 1, 0, none⟩) 1 1] 24)) = W0 at *
  clear p0 p1 p2
  refine HM.out.mono ?_
  rintro e w1 ⟨rfl, B1⟩
  have BE := BW.trans (B1.mono BW.size)
  have C1 := C0.on B1 C0.lt
  have X1 := X0.on B1 X0.lt
  have R1 := R0.on B1 R0.lt
  have F1 := R1.fr (Nat.le_refl _)
  obtain ⟨p0, p1, p2⟩ := C1.cb
  obtain ⟨q0, q1, q2⟩ := X1.cb
  have f0 := X1.free 0
  have f1 := X1.free 1
  have f2 := X1.free 2
  go_wp2_with fail
  exact bodyPost_ret (run_res14 (B := w.heap.size) rfl rfl (X1.put a n (some ⟨w.heap.size + 1, 0, none⟩) 1 1).cb) rfl ⟨some ⟨w.heap.size + 1, 0, none⟩, 1, rfl, Nat.le_refl _, (((F1.set _ (by show w.heap.size < w.heap.size + 1; omega) _).set _ (by show w.heap.size < w.heap.size + 1; omega) _).set _ (by show w.heap.size < w.heap.size + 1; omega) _).low (by omega), put_below _ BE (Nat.le_refl _) _ _ _⟩

theorem ropen_any (a n : Int) (w : World) : Calls Try.prog 14 #[.int .i64 a, .int .i64 n] w (ChPost w (opens a n)) := by
  unfold opens
  by_cases hm : mb a n [n] = true
  · rw [if_pos (mb_iff.1 hm)]; exact ropen_ok a n w hm
  · rw [if_neg (fun q => hm (mb_iff.2 q))]; exact ropen_arg a n w (by simpa using hm)


end Go.Proofs.Ytpelopfbdfnmeaa
