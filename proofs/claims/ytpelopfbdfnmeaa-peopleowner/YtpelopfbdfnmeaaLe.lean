/-
  The walk of Leave: a channel with a user less. Conditions: at most 1000 members.
-/
import Derived.Test.YtpelopfbdfnmeaaJo
namespace Go.Proofs.Ytpelopfbdfnmeaa
open Go.RowKit
set_option linter.unusedVariables false

theorem leave_arg (a o : Int) (A : Option Addr) (c : Nat) (l : List Int) (n : Int) (w : World) (hl : l.length ≤ 1000) (hc : l.length ≤ c) (hs : Sl w w.heap.size .i64 A l) (hm : mb a o l = false) : Calls Try.prog 11 #[.agg #[.int .i64 a, .int .i64 o, .slice A l.length c], .int .i64 n] w (ChPost w (Ch.none, 1)) := by
  have BW : Below w.heap.size w ((w.alloc (.cells #[.int .i64 a, .int .i64 o, .slice A l.length c] 24)).alloc (.cells #[.int .i64 0, .int .i64 0, .slice none 0 0] 24)) := ((Below.refl _ _).alloc (Nat.le_refl _) _).alloc (by simp) _
  have C0 : Cx ((w.alloc (.cells #[.int .i64 a, .int .i64 o, .slice A l.length c] 24)).alloc (.cells #[.int .i64 0, .int .i64 0, .slice none 0 0] 24)) w.heap.size a o A l.length c := (cx_new w a o A l.length c).old _
  have X0 : Cx ((w.alloc (.cells #[.int .i64 a, .int .i64 o, .slice A l.length c] 24)).alloc (.cells #[.int .i64 0, .int .i64 0, .slice none 0 0] 24)) (w.heap.size + 1) 0 0 none 0 0 := by
    have := cx_new (w.alloc (.cells #[.int .i64 a, .int .i64 o, .slice A l.length c] 24)) 0 0 none 0 0
    rw [show (w.alloc (.cells #[.int .i64 a, .int .i64 o, .slice A l.length c] 24)).heap.size = w.heap.size + 1 by simp] at this
    exact this
  have Z0 : ((w.alloc (.cells #[.int .i64 a, .int .i64 o, .slice A l.length c] 24)).alloc (.cells #[.int .i64 0, .int .i64 0, .slice none 0 0] 24)).heap.size = w.heap.size + 2 := by simp
  have HM : Hid (Calls Try.prog 16 #[.agg #[.int .i64 a, .int .i64 o, .slice A l.length c]] ((w.alloc (.cells #[.int .i64 a, .int .i64 o, .slice A l.length c] 24)).alloc (.cells #[.int .i64 0, .int .i64 0, .slice none 0 0] 24)) (BoolPost ((w.alloc (.cells #[.int .i64 a, .int .i64 o, .slice A l.length c] 24)).alloc (.cells #[.int .i64 0, .int .i64 0, .slice none 0 0] 24)) (mb a o l))) := may_any a o A c l _ hl (hs.to BW BW.size)
  rw [hm] at HM
  obtain ⟨p0, p1, p2⟩ := C0.cb
  go_enter Try.func11, Try.ntmps11
  go_wp2_with fail
  generalize ((w.alloc (.cells #[.int .i64 a, .int .i64 o, .slice A l.length c] 24)).alloc (.cells #[.int .i64 0, .int .i64 0, .slice none 0 0] 24)) = W0 at *
  clear p0 p1 p2
  refine HM.out.mono ?_
  rintro e w1 ⟨rfl, B1⟩
  have BE := BW.trans (B1.mono BW.size)
  have C1 := C0.on B1 C0.lt
  have X1 := X0.on B1 X0.lt
  obtain ⟨p0, p1, p2⟩ := C1.cb
  obtain ⟨q0, q1, q2⟩ := X1.cb
  have f0 := X1.free 0
  have f1 := X1.free 1
  have f2 := X1.free 2
  go_wp2_with fail
  exact bodyPost_ret (run_res11 (B := w.heap.size + 1) rfl rfl (X1.put 0 0 none 0 0).cb) rfl ⟨none, 0, rfl, Nat.le_refl _, .nil, put_below _ BE (by omega) _ _ _⟩

theorem leave_none (a o : Int) (A : Option Addr) (c : Nat) (l : List Int) (n : Int) (w : World) (hl : l.length ≤ 1000) (hc : l.length ≤ c) (hs : Sl w w.heap.size .i64 A l) (hm : mb a o l = true) (hn : ¬ n ∈ l) : Calls Try.prog 11 #[.agg #[.int .i64 a, .int .i64 o, .slice A l.length c], .int .i64 n] w (ChPost w (Ch.none, 5)) := by
  have BW : Below w.heap.size w ((w.alloc (.cells #[.int .i64 a, .int .i64 o, .slice A l.length c] 24)).alloc (.cells #[.int .i64 0, .int .i64 0, .slice none 0 0] 24)) := ((Below.refl _ _).alloc (Nat.le_refl _) _).alloc (by simp) _
  have C0 : Cx ((w.alloc (.cells #[.int .i64 a, .int .i64 o, .slice A l.length c] 24)).alloc (.cells #[.int .i64 0, .int .i64 0, .slice none 0 0] 24)) w.heap.size a o A l.length c := (cx_new w a o A l.length c).old _
  have X0 : Cx ((w.alloc (.cells #[.int .i64 a, .int .i64 o, .slice A l.length c] 24)).alloc (.cells #[.int .i64 0, .int .i64 0, .slice none 0 0] 24)) (w.heap.size + 1) 0 0 none 0 0 := by
    have := cx_new (w.alloc (.cells #[.int .i64 a, .int .i64 o, .slice A l.length c] 24)) 0 0 none 0 0
    rw [show (w.alloc (.cells #[.int .i64 a, .int .i64 o, .slice A l.length c] 24)).heap.size = w.heap.size + 1 by simp] at this
    exact this
  have Z0 : ((w.alloc (.cells #[.int .i64 a, .int .i64 o, .slice A l.length c] 24)).alloc (.cells #[.int .i64 0, .int .i64 0, .slice none 0 0] 24)).heap.size = w.heap.size + 2 := by simp
  have HM : Hid (Calls Try.prog 16 #[.agg #[.int .i64 a, .int .i64 o, .slice A l.length c]] ((w.alloc (.cells #[.int .i64 a, .int .i64 o, .slice A l.length c] 24)).alloc (.cells #[.int .i64 0, .int .i64 0, .slice none 0 0] 24)) (BoolPost ((w.alloc (.cells #[.int .i64 a, .int .i64 o, .slice A l.length c] 24)).alloc (.cells #[.int .i64 0, .int .i64 0, .slice none 0 0] 24)) (mb a o l))) := may_any a o A c l _ hl (hs.to BW BW.size)
  have HS : Hid (∀ W, Below w.heap.size w W → Calls Try.prog 21 #[.slice A l.length c, .int .i64 n] W fun e w' => e = .returned (.tuple #[.int .i64 (pos n l : Int), .bool (decide (n ∈ l))]) ∧ W = w') := fun W hB => search_any A c w.heap.size l n W hl (mb_iff.1 hm).2.2.2.1 (hs.below hB)
  rw [hm] at HM
  rw [decide_eq_false hn] at HS
  generalize pos n l = p at HS
  obtain ⟨p0, p1, p2⟩ := C0.cb
  go_enter Try.func11, Try.ntmps11
  go_wp2_with fail
  generalize ((w.alloc (.cells #[.int .i64 a, .int .i64 o, .slice A l.length c] 24)).alloc (.cells #[.int .i64 0, .int .i64 0, .slice none 0 0] 24)) = W0 at *
  clear p0 p1 p2
  refine HM.out.mono ?_
  rintro e w1 ⟨rfl, B1⟩
  have BE := BW.trans (B1.mono BW.size)
  have C1 := C0.on B1 C0.lt
  have X1 := X0.on B1 X0.lt
  have HS1 := Lib.hid (HS.out w1 BE)
  clear HS
  obtain ⟨p0, p1, p2⟩ := C1.cb
  obtain ⟨q0, q1, q2⟩ := X1.cb
  have f0 := X1.free 0
  have f1 := X1.free 1
  have f2 := X1.free 2
  go_wp2_with fail
  refine HS1.out.mono ?_
  rintro e w2 ⟨rfl, rfl⟩
  go_wp2_with fail
  exact bodyPost_ret (run_res11 (B := w.heap.size + 1) rfl rfl (X1.put 0 0 none 0 0).cb) rfl ⟨none, 0, rfl, Nat.le_refl _, .nil, put_below _ BE (by omega) _ _ _⟩

theorem leave_deny (a o : Int) (A : Option Addr) (c : Nat) (l : List Int) (n : Int) (w : World) (hl : l.length ≤ 1000) (hc : l.length ≤ c) (hs : Sl w w.heap.size .i64 A l) (hm : mb a o l = true) (hn : n ∈ l) (ho : n = o) : Calls Try.prog 11 #[.agg #[.int .i64 a, .int .i64 o, .slice A l.length c], .int .i64 n] w (ChPost w (Ch.none, 8)) := by
  have BW : Below w.heap.size w ((w.alloc (.cells #[.int .i64 a, .int .i64 o, .slice A l.length c] 24)).alloc (.cells #[.int .i64 0, .int .i64 0, .slice none 0 0] 24)) := ((Below.refl _ _).alloc (Nat.le_refl _) _).alloc (by simp) _
  have C0 : Cx ((w.alloc (.cells #[.int .i64 a, .int .i64 o, .slice A l.length c] 24)).alloc (.cells #[.int .i64 0, .int .i64 0, .slice none 0 0] 24)) w.heap.size a o A l.length c := (cx_new w a o A l.length c).old _
  have X0 : Cx ((w.alloc (.cells #[.int .i64 a, .int .i64 o, .slice A l.length c] 24)).alloc (.cells #[.int .i64 0, .int .i64 0, .slice none 0 0] 24)) (w.heap.size + 1) 0 0 none 0 0 := by
    have := cx_new (w.alloc (.cells #[.int .i64 a, .int .i64 o, .slice A l.length c] 24)) 0 0 none 0 0
    rw [show (w.alloc (.cells #[.int .i64 a, .int .i64 o, .slice A l.length c] 24)).heap.size = w.heap.size + 1 by simp] at this
    exact this
  have Z0 : ((w.alloc (.cells #[.int .i64 a, .int .i64 o, .slice A l.length c] 24)).alloc (.cells #[.int .i64 0, .int .i64 0, .slice none 0 0] 24)).heap.size = w.heap.size + 2 := by simp
  have HM : Hid (Calls Try.prog 16 #[.agg #[.int .i64 a, .int .i64 o, .slice A l.length c]] ((w.alloc (.cells #[.int .i64 a, .int .i64 o, .slice A l.length c] 24)).alloc (.cells #[.int .i64 0, .int .i64 0, .slice none 0 0] 24)) (BoolPost ((w.alloc (.cells #[.int .i64 a, .int .i64 o, .slice A l.length c] 24)).alloc (.cells #[.int .i64 0, .int .i64 0, .slice none 0 0] 24)) (mb a o l))) := may_any a o A c l _ hl (hs.to BW BW.size)
  have HS : Hid (∀ W, Below w.heap.size w W → Calls Try.prog 21 #[.slice A l.length c, .int .i64 n] W fun e w' => e = .returned (.tuple #[.int .i64 (pos n l : Int), .bool (decide (n ∈ l))]) ∧ W = w') := fun W hB => search_any A c w.heap.size l n W hl (mb_iff.1 hm).2.2.2.1 (hs.below hB)
  rw [hm] at HM
  rw [decide_eq_true hn] at HS
  generalize pos n l = p at HS
  subst ho
  obtain ⟨p0, p1, p2⟩ := C0.cb
  go_enter Try.func11, Try.ntmps11
  go_wp2_with fail
  generalize ((w.alloc (.cells #[.int .i64 a, .int .i64 n, .slice A l.length c] 24)).alloc (.cells #[.int .i64 0, .int .i64 0, .slice none 0 0] 24)) = W0 at *
  clear p0 p1 p2
  refine HM.out.mono ?_
  rintro e w1 ⟨rfl, B1⟩
  have BE := BW.trans (B1.mono BW.size)
  have C1 := C0.on B1 C0.lt
  have X1 := X0.on B1 X0.lt
  have HS1 := Lib.hid (HS.out w1 BE)
  clear HS
  obtain ⟨p0, p1, p2⟩ := C1.cb
  obtain ⟨q0, q1, q2⟩ := X1.cb
  have f0 := X1.free 0
  have f1 := X1.free 1
  have f2 := X1.free 2
  go_wp2_with fail
  refine HS1.out.mono ?_
  rintro e w2 ⟨rfl, rfl⟩
  go_wp2_with fail
  exact bodyPost_ret (run_res11 (B := w.heap.size + 1) rfl rfl (X1.put 0 0 none 0 0).cb) rfl ⟨none, 0, rfl, Nat.le_refl _, .nil, put_below _ BE (by omega) _ _ _⟩

set_option maxHeartbeats 1000000 in
theorem leave_ok (a o : Int) (A : Option Addr) (c : Nat) (l : List Int) (n : Int) (w : World) (hl : l.length ≤ 1000) (hc : l.length ≤ c) (hs : Sl w w.heap.size .i64 A l) (hm : mb a o l = true) (hn : n ∈ l) (ho : (n == o) = false) : Calls Try.prog 11 #[.agg #[.int .i64 a, .int .i64 o, .slice A l.length c], .int .i64 n] w (ChPost w (⟨a, o, del n l⟩, 0)) := by
  have BW : Below w.heap.size w ((w.alloc (.cells #[.int .i64 a, .int .i64 o, .slice A l.length c] 24)).alloc (.cells #[.int .i64 0, .int .i64 0, .slice none 0 0] 24)) := ((Below.refl _ _).alloc (Nat.le_refl _) _).alloc (by simp) _
  have C0 : Cx ((w.alloc (.cells #[.int .i64 a, .int .i64 o, .slice A l.length c] 24)).alloc (.cells #[.int .i64 0, .int .i64 0, .slice none 0 0] 24)) w.heap.size a o A l.length c := (cx_new w a o A l.length c).old _
  have X0 : Cx ((w.alloc (.cells #[.int .i64 a, .int .i64 o, .slice A l.length c] 24)).alloc (.cells #[.int .i64 0, .int .i64 0, .slice none 0 0] 24)) (w.heap.size + 1) 0 0 none 0 0 := by
    have := cx_new (w.alloc (.cells #[.int .i64 a, .int .i64 o, .slice A l.length c] 24)) 0 0 none 0 0
    rw [show (w.alloc (.cells #[.int .i64 a, .int .i64 o, .slice A l.length c] 24)).heap.size = w.heap.size + 1 by simp] at this
    exact this
  have Z0 : ((w.alloc (.cells #[.int .i64 a, .int .i64 o, .slice A l.length c] 24)).alloc (.cells #[.int .i64 0, .int .i64 0, .slice none 0 0] 24)).heap.size = w.heap.size + 2 := by simp
  have HM : Hid (Calls Try.prog 16 #[.agg #[.int .i64 a, .int .i64 o, .slice A l.length c]] ((w.alloc (.cells #[.int .i64 a, .int .i64 o, .slice A l.length c] 24)).alloc (.cells #[.int .i64 0, .int .i64 0, .slice none 0 0] 24)) (BoolPost ((w.alloc (.cells #[.int .i64 a, .int .i64 o, .slice A l.length c] 24)).alloc (.cells #[.int .i64 0, .int .i64 0, .slice none 0 0] 24)) (mb a o l))) := may_any a o A c l _ hl (hs.to BW BW.size)
  have HS : Hid (∀ W, Below w.heap.size w W → Calls Try.prog 21 #[.slice A l.length c, .int .i64 n] W fun e w' => e = .returned (.tuple #[.int .i64 (pos n l : Int), .bool (decide (n ∈ l))]) ∧ W = w') := fun W hB => search_any A c w.heap.size l n W hl (mb_iff.1 hm).2.2.2.1 (hs.below hB)
  have hr : rise l := (mb_iff.1 hm).2.2.2.1
  have hpl : pos n l < l.length := (List.getElem?_eq_some_iff.1 ((in_pos hr).1 hn)).1
  have HW : Hid (∀ W, Below w.heap.size w W → Calls Try.prog 25 #[.slice A l.length c, .int .i64 (pos n l : Int)] W (RowPost W (del n l))) := fun W hB => by
    rw [del_pos hr hn]
    exact without_any A c l (pos n l) W hl hpl hc (hs.to hB hB.size)
  rw [hm] at HM
  rw [decide_eq_true hn] at HS
  clear hr hpl hn
  generalize del n l = l' at *
  generalize pos n l = p at *
  obtain ⟨p0, p1, p2⟩ := C0.cb
  go_enter Try.func11, Try.ntmps11
  go_wp2_with fail
  generalize ((w.alloc (.cells #[.int .i64 a, .int .i64 o, .slice A l.length c] 24)).alloc (.cells #[.int .i64 0, .int .i64 0, .slice none 0 0] 24)) = W0 at *
  clear p0 p1 p2
  refine HM.out.mono ?_
  rintro e w1 ⟨rfl, B1⟩
  have BE := BW.trans (B1.mono BW.size)
  have C1 := C0.on B1 C0.lt
  have X1 := X0.on B1 X0.lt
  have HS1 := Lib.hid (HS.out w1 BE)
  have HW1 := Lib.hid (HW.out w1 BE)
  clear HS HW
  obtain ⟨p0, p1, p2⟩ := C1.cb
  obtain ⟨q0, q1, q2⟩ := X1.cb
  have f0 := X1.free 0
  have f1 := X1.free 1
  have f2 := X1.free 2
  go_wp2_with fail
  refine HS1.out.mono ?_
  rintro e w2 ⟨rfl, rfl⟩
  go_wp2_with fail
  clear p0 p1 p2 q0 q1 q2 f0 f1 f2
  refine HW1.out.mono ?_
  rintro e w2 ⟨A2, c2, rfl, hc2, hf2, B2⟩
  have s1 := B1.size
  have BF := BE.trans (B2.mono BE.size)
  have C2 := C1.on B2 (by omega)
  have X2 := X1.on B2 (by omega)
  have C3 := C2.set2 A2 l'.length c2
  have X3 := X2.other (p := ⟨w.heap.size, 2, none⟩) (by show w.heap.size + 1 ≠ w.heap.size; omega) (.slice A2 l'.length c2)
  have BG := BF.setCell (p := ⟨w.heap.size, 2, none⟩) (Nat.le_refl _) (.slice A2 l'.length c2)
  have F3 := hf2.set ⟨w.heap.size, 2, none⟩ (by show w.heap.size < w1.heap.size; omega) (.slice A2 l'.length c2)
  have g2 := C2.free 2
  obtain ⟨_, _, p2⟩ := C2.cb
  obtain ⟨t0, t1, t2⟩ := C3.cb
  obtain ⟨q0, q1, q2⟩ := X3.cb
  have f0 := X3.free 0
  have f1 := X3.free 1
  have f2 := X3.free 2
  go_wp2_with fail
  exact bodyPost_ret (run_res11 (B := w.heap.size + 1) rfl rfl (X3.put a o A2 l'.length c2).cb) rfl ⟨A2, c2, rfl, hc2, (((F3.set _ (by show w.heap.size + 1 < w1.heap.size; omega) _).set _ (by show w.heap.size + 1 < w1.heap.size; omega) _).set _ (by show w.heap.size + 1 < w1.heap.size; omega) _).low (by omega), put_below _ BG (by omega) _ _ _⟩

theorem leave_any (a o : Int) (A : Option Addr) (c : Nat) (l : List Int) (n : Int) (w : World) (hl : l.length ≤ 1000) (hc : l.length ≤ c) (hs : Sl w w.heap.size .i64 A l) : Calls Try.prog 11 #[.agg #[.int .i64 a, .int .i64 o, .slice A l.length c], .int .i64 n] w (ChPost w (leaves ⟨a, o, l⟩ n)) := by
  unfold leaves
  by_cases hm : mb a o l = true
  · rw [if_neg (fun q => q (mb_iff.1 hm))]
    by_cases hn : n ∈ l
    · rw [if_neg (fun q => q hn)]
      by_cases ho : o = n
      · rw [if_pos ho]; exact leave_deny a o A c l n w hl hc hs hm hn ho.symm
      · rw [if_neg ho]; exact leave_ok a o A c l n w hl hc hs hm hn (by rw [beq_eq_false_iff_ne]; exact fun q => ho q.symm)
    · rw [if_pos hn]; exact leave_none a o A c l n w hl hc hs hm hn
  · rw [if_pos (fun q => hm (mb_iff.2 q))]
    exact leave_arg a o A c l n w hl hc hs (by simpa using hm)

end Go.Proofs.Ytpelopfbdfnmeaa
