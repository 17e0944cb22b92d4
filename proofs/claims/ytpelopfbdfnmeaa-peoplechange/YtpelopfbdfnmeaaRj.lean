/-
  The walk of the document's own Join: through the list, ahead of the first that is greater. Conditions: at most 1000 members.
-/
import Derived.Test.YtpelopfbdfnmeaaJo
import Derived.Laws.AppendOwn
namespace Go.Proofs.Ytpelopfbdfnmeaa
open Go.RowKit
set_option linter.unusedVariables false

theorem one_cell (w : World) (x : Int) : ∀ j u, ([Value.int .i64 x] : List Value)[j]? = some u → (w.alloc (.cells #[.int .i64 x] 3)).cell? ((⟨w.heap.size, 0, none⟩ : Addr).add j) = some u := by
  intro j u hu
  match j, hu with
  | 0, hu => simp at hu; subst hu; simp [Addr.add_lit]
theorem one_one (x : Int) : ∀ u ∈ ([Value.int .i64 x] : List Value), u.oneCell' = true := by
  intro u hu
  simp at hu
  subst hu
  rfl
theorem own_more {w : World} {base m : Nat} {v : Value} {xs ys : List Int} {x : Int} (h : w.ownsRow base 3 1 v m (xs.map (Value.int .i64) ++ [.int .i64 x])) (hm : m = xs.length + 1) (hy : ys = xs ++ [x]) : w.ownsRow base 3 1 v ys.length (ys.map (Value.int .i64)) := by
  subst hm
  subst hy
  rw [List.length_append, List.map_append]
  exact h

theorem rjoin_arg (a o : Int) (A : Option Addr) (c : Nat) (l : List Int) (n : Int) (w : World) (hl : l.length ≤ 1000) (hc : l.length ≤ c) (hs : Sl w w.heap.size .i64 A l) (hm : mb a o l = false) : Calls Try.prog 10 #[.agg #[.int .i64 a, .int .i64 o, .slice A l.length c], .int .i64 n] w (ChPost w (Ch.none, 1)) := by
  have BW : Below w.heap.size w ((w.alloc (.cells #[.int .i64 a, .int .i64 o, .slice A l.length c] 24)).alloc (.cells #[.int .i64 0, .int .i64 0, .slice none 0 0] 24)) := ((Below.refl _ _).alloc (Nat.le_refl _) _).alloc (by simp) _
  have C0 : Cx ((w.alloc (.cells #[.int .i64 a, .int .i64 o, .slice A l.length c] 24)).alloc (.cells #[.int .i64 0, .int .i64 0, .slice none 0 0] 24)) w.heap.size a o A l.length c := (cx_new w a o A l.length c).old _
  have X0 : Cx ((w.alloc (.cells #[.int .i64 a, .int .i64 o, .slice A l.length c] 24)).alloc (.cells #[.int .i64 0, .int .i64 0, .slice none 0 0] 24)) (w.heap.size + 1) 0 0 none 0 0 := by
    have := cx_new (w.alloc (.cells #[.int .i64 a, .int .i64 o, .slice A l.length c] 24)) 0 0 none 0 0
    rw [show (w.alloc (.cells #[.int .i64 a, .int .i64 o, .slice A l.length c] 24)).heap.size = w.heap.size + 1 by simp] at this
    exact this
  have Z0 : ((w.alloc (.cells #[.int .i64 a, .int .i64 o, .slice A l.length c] 24)).alloc (.cells #[.int .i64 0, .int .i64 0, .slice none 0 0] 24)).heap.size = w.heap.size + 2 := by simp
  have HM : Hid (Calls Try.prog 17 #[.agg #[.int .i64 a, .int .i64 o, .slice A l.length c]] ((w.alloc (.cells #[.int .i64 a, .int .i64 o, .slice A l.length c] 24)).alloc (.cells #[.int .i64 0, .int .i64 0, .slice none 0 0] 24)) (BoolPost ((w.alloc (.cells #[.int .i64 a, .int .i64 o, .slice A l.length c] 24)).alloc (.cells #[.int .i64 0, .int .i64 0, .slice none 0 0] 24)) (mb a o l))) := rmay_any a o A c l _ hl (hs.to BW BW.size)
  have HU : ∀ W, Hid (Calls Try.prog 23 #[.int .i64 n] W fun e w' => e = .returned (.bool (usr n)) ∧ W = w') := fun W => ruser_any n W
  rw [hm] at HM
  generalize usr n = u at *
  obtain ⟨p0, p1, p2⟩ := C0.cb
  go_enter Try.func10, Try.ntmps10
  go_wp2_with fail
  generalize ((w.alloc (.cells #[.int .i64 a, .int .i64 o, .slice A l.length c] 24)).alloc (.cells #[.int .i64 0, .int .i64 0, .slice none 0 0] 24)) = W0 at *
  clear p0 p1 p2
  refine HM.out.mono ?_
  rintro e w1 ⟨rfl, B1⟩
  have BE := BW.trans (B1.mono BW.size)
  have C1 := C0.on B1 C0.lt
  have X1 := X0.on B1 X0.lt
  obtain ⟨p0, p1, p2⟩ := C1.cb
  obtain ⟨q0, q1, q2⟩ := X1.cb
  have f0 := X1.free 0
  have f1 := X1.free 1
  have f2 := X1.free 2
  go_wp2_with fail
  refine (HU _).out.mono ?_
  rintro e w2 ⟨rfl, rfl⟩
  go_wp2_with fail
  exact bodyPost_ret (run_res10 (B := w.heap.size + 1) rfl rfl (X1.put 0 0 none 0 0).cb) rfl ⟨none, 0, rfl, Nat.le_refl _, .nil, put_below _ BE (by omega) _ _ _⟩

theorem rjoin_usr (a o : Int) (A : Option Addr) (c : Nat) (l : List Int) (n : Int) (w : World) (hl : l.length ≤ 1000) (hc : l.length ≤ c) (hs : Sl w w.heap.size .i64 A l) (hm : mb a o l = true) (hu : usr n = false) : Calls Try.prog 10 #[.agg #[.int .i64 a, .int .i64 o, .slice A l.length c], .int .i64 n] w (ChPost w (Ch.none, 1)) := by
  have BW : Below w.heap.size w ((w.alloc (.cells #[.int .i64 a, .int .i64 o, .slice A l.length c] 24)).alloc (.cells #[.int .i64 0, .int .i64 0, .slice none 0 0] 24)) := ((Below.refl _ _).alloc (Nat.le_refl _) _).alloc (by simp) _
  have C0 : Cx ((w.alloc (.cells #[.int .i64 a, .int .i64 o, .slice A l.length c] 24)).alloc (.cells #[.int .i64 0, .int .i64 0, .slice none 0 0] 24)) w.heap.size a o A l.length c := (cx_new w a o A l.length c).old _
  have X0 : Cx ((w.alloc (.cells #[.int .i64 a, .int .i64 o, .slice A l.length c] 24)).alloc (.cells #[.int .i64 0, .int .i64 0, .slice none 0 0] 24)) (w.heap.size + 1) 0 0 none 0 0 := by
    have := cx_new (w.alloc (.cells #[.int .i64 a, .int .i64 o, .slice A l.length c] 24)) 0 0 none 0 0
    rw [show (w.alloc (.cells #[.int .i64 a, .int .i64 o, .slice A l.length c] 24)).heap.size = w.heap.size + 1 by simp] at this
    exact this
  have Z0 : ((w.alloc (.cells #[.int .i64 a, .int .i64 o, .slice A l.length c] 24)).alloc (.cells #[.int .i64 0, .int .i64 0, .slice none 0 0] 24)).heap.size = w.heap.size + 2 := by simp
  have HM : Hid (Calls Try.prog 17 #[.agg #[.int .i64 a, .int .i64 o, .slice A l.length c]] ((w.alloc (.cells #[.int .i64 a, .int .i64 o, .slice A l.length c] 24)).alloc (.cells #[.int .i64 0, .int .i64 0, .slice none 0 0] 24)) (BoolPost ((w.alloc (.cells #[.int .i64 a, .int .i64 o, .slice A l.length c] 24)).alloc (.cells #[.int .i64 0, .int .i64 0, .slice none 0 0] 24)) (mb a o l))) := rmay_any a o A c l _ hl (hs.to BW BW.size)
  have HU : ∀ W, Hid (Calls Try.prog 23 #[.int .i64 n] W fun e w' => e = .returned (.bool (usr n)) ∧ W = w') := fun W => ruser_any n W
  rw [hm] at HM
  rw [hu] at HU
  obtain ⟨p0, p1, p2⟩ := C0.cb
  go_enter Try.func10, Try.ntmps10
  go_wp2_with fail
  generalize ((w.alloc (.cells #[.int .i64 a, .int .i64 o, .slice A l.length c] 24)).alloc (.cells #[.int .i64 0, .int .i64 0, .slice none 0 0] 24)) = W0 at *
  clear p0 p1 p2
  refine HM.out.mono ?_
  rintro e w1 ⟨rfl, B1⟩
  have BE := BW.trans (B1.mono BW.size)
  have C1 := C0.on B1 C0.lt
  have X1 := X0.on B1 X0.lt
  obtain ⟨p0, p1, p2⟩ := C1.cb
  obtain ⟨q0, q1, q2⟩ := X1.cb
  have f0 := X1.free 0
  have f1 := X1.free 1
  have f2 := X1.free 2
  go_wp2_with fail
  refine (HU _).out.mono ?_
  rintro e w2 ⟨rfl, rfl⟩
  go_wp2_with fail
  exact bodyPost_ret (run_res10 (B := w.heap.size + 1) rfl rfl (X1.put 0 0 none 0 0).cb) rfl ⟨none, 0, rfl, Nat.le_refl _, .nil, put_below _ BE (by omega) _ _ _⟩

theorem rjoin_there (a o : Int) (A : Option Addr) (c : Nat) (l : List Int) (n : Int) (w : World) (hl : l.length ≤ 1000) (hc : l.length ≤ c) (hs : Sl w w.heap.size .i64 A l) (hm : mb a o l = true) (hu : usr n = true) (hn : n ∈ l) : Calls Try.prog 10 #[.agg #[.int .i64 a, .int .i64 o, .slice A l.length c], .int .i64 n] w (ChPost w (Ch.none, 6)) := by
  have BW : Below w.heap.size w ((w.alloc (.cells #[.int .i64 a, .int .i64 o, .slice A l.length c] 24)).alloc (.cells #[.int .i64 0, .int .i64 0, .slice none 0 0] 24)) := ((Below.refl _ _).alloc (Nat.le_refl _) _).alloc (by simp) _
  have C0 : Cx ((w.alloc (.cells #[.int .i64 a, .int .i64 o, .slice A l.length c] 24)).alloc (.cells #[.int .i64 0, .int .i64 0, .slice none 0 0] 24)) w.heap.size a o A l.length c := (cx_new w a o A l.length c).old _
  have X0 : Cx ((w.alloc (.cells #[.int .i64 a, .int .i64 o, .slice A l.length c] 24)).alloc (.cells #[.int .i64 0, .int .i64 0, .slice none 0 0] 24)) (w.heap.size + 1) 0 0 none 0 0 := by
    have := cx_new (w.alloc (.cells #[.int .i64 a, .int .i64 o, .slice A l.length c] 24)) 0 0 none 0 0
    rw [show (w.alloc (.cells #[.int .i64 a, .int .i64 o, .slice A l.length c] 24)).heap.size = w.heap.size + 1 by simp] at this
    exact this
  have Z0 : ((w.alloc (.cells #[.int .i64 a, .int .i64 o, .slice A l.length c] 24)).alloc (.cells #[.int .i64 0, .int .i64 0, .slice none 0 0] 24)).heap.size = w.heap.size + 2 := by simp
  have HM : Hid (Calls Try.prog 17 #[.agg #[.int .i64 a, .int .i64 o, .slice A l.length c]] ((w.alloc (.cells #[.int .i64 a, .int .i64 o, .slice A l.length c] 24)).alloc (.cells #[.int .i64 0, .int .i64 0, .slice none 0 0] 24)) (BoolPost ((w.alloc (.cells #[.int .i64 a, .int .i64 o, .slice A l.length c] 24)).alloc (.cells #[.int .i64 0, .int .i64 0, .slice none 0 0] 24)) (mb a o l))) := rmay_any a o A c l _ hl (hs.to BW BW.size)
  have HU : ∀ W, Hid (Calls Try.prog 23 #[.int .i64 n] W fun e w' => e = .returned (.bool (usr n)) ∧ W = w') := fun W => ruser_any n W
  have HH : Hid (∀ W, Below w.heap.size w W → Calls Try.prog 24 #[.slice A l.length c, .int .i64 n] W fun e w' => e = .returned (.bool (decide (n ∈ l))) ∧ W = w') := fun W hB => rhas_any A c w.heap.size l n W hl (hs.below hB)
  rw [hm] at HM
  rw [hu] at HU
  rw [decide_eq_true hn] at HH
  obtain ⟨p0, p1, p2⟩ := C0.cb
  go_enter Try.func10, Try.ntmps10
  go_wp2_with fail
  generalize ((w.alloc (.cells #[.int .i64 a, .int .i64 o, .slice A l.length c] 24)).alloc (.cells #[.int .i64 0, .int .i64 0, .slice none 0 0] 24)) = W0 at *
  clear p0 p1 p2
  refine HM.out.mono ?_
  rintro e w1 ⟨rfl, B1⟩
  have BE := BW.trans (B1.mono BW.size)
  have C1 := C0.on B1 C0.lt
  have X1 := X0.on B1 X0.lt
  have HS1 := Lib.hid (HH.out w1 BE)
  clear HH
  obtain ⟨p0, p1, p2⟩ := C1.cb
  obtain ⟨q0, q1, q2⟩ := X1.cb
  have f0 := X1.free 0
  have f1 := X1.free 1
  have f2 := X1.free 2
  go_wp2_with fail
  refine (HU _).out.mono ?_
  rintro e w2 ⟨rfl, rfl⟩
  go_wp2_with fail
  refine HS1.out.mono ?_
  rintro e w2 ⟨rfl, rfl⟩
  go_wp2_with fail
  exact bodyPost_ret (run_res10 (B := w.heap.size + 1) rfl rfl (X1.put 0 0 none 0 0).cb) rfl ⟨none, 0, rfl, Nat.le_refl _, .nil, put_below _ BE (by omega) _ _ _⟩

theorem rjoin_full (a o : Int) (A : Option Addr) (c : Nat) (l : List Int) (n : Int) (w : World) (hl : l.length ≤ 1000) (hc : l.length ≤ c) (hs : Sl w w.heap.size .i64 A l) (hm : mb a o l = true) (hu : usr n = true) (hn : ¬ n ∈ l) (h16 : 16 ≤ (l.length : Int)) : Calls Try.prog 10 #[.agg #[.int .i64 a, .int .i64 o, .slice A l.length c], .int .i64 n] w (ChPost w (Ch.none, 7)) := by
  have BW : Below w.heap.size w ((w.alloc (.cells #[.int .i64 a, .int .i64 o, .slice A l.length c] 24)).alloc (.cells #[.int .i64 0, .int .i64 0, .slice none 0 0] 24)) := ((Below.refl _ _).alloc (Nat.le_refl _) _).alloc (by simp) _
  have C0 : Cx ((w.alloc (.cells #[.int .i64 a, .int .i64 o, .slice A l.length c] 24)).alloc (.cells #[.int .i64 0, .int .i64 0, .slice none 0 0] 24)) w.heap.size a o A l.length c := (cx_new w a o A l.length c).old _
  have X0 : Cx ((w.alloc (.cells #[.int .i64 a, .int .i64 o, .slice A l.length c] 24)).alloc (.cells #[.int .i64 0, .int .i64 0, .slice none 0 0] 24)) (w.heap.size + 1) 0 0 none 0 0 := by
    have := cx_new (w.alloc (.cells #[.int .i64 a, .int .i64 o, .slice A l.length c] 24)) 0 0 none 0 0
    rw [show (w.alloc (.cells #[.int .i64 a, .int .i64 o, .slice A l.length c] 24)).heap.size = w.heap.size + 1 by simp] at this
    exact this
  have Z0 : ((w.alloc (.cells #[.int .i64 a, .int .i64 o, .slice A l.length c] 24)).alloc (.cells #[.int .i64 0, .int .i64 0, .slice none 0 0] 24)).heap.size = w.heap.size + 2 := by simp
  have HM : Hid (Calls Try.prog 17 #[.agg #[.int .i64 a, .int .i64 o, .slice A l.length c]] ((w.alloc (.cells #[.int .i64 a, .int .i64 o, .slice A l.length c] 24)).alloc (.cells #[.int .i64 0, .int .i64 0, .slice none 0 0] 24)) (BoolPost ((w.alloc (.cells #[.int .i64 a, .int .i64 o, .slice A l.length c] 24)).alloc (.cells #[.int .i64 0, .int .i64 0, .slice none 0 0] 24)) (mb a o l))) := rmay_any a o A c l _ hl (hs.to BW BW.size)
  have HU : ∀ W, Hid (Calls Try.prog 23 #[.int .i64 n] W fun e w' => e = .returned (.bool (usr n)) ∧ W = w') := fun W => ruser_any n W
  have HH : Hid (∀ W, Below w.heap.size w W → Calls Try.prog 24 #[.slice A l.length c, .int .i64 n] W fun e w' => e = .returned (.bool (decide (n ∈ l))) ∧ W = w') := fun W hB => rhas_any A c w.heap.size l n W hl (hs.below hB)
  rw [hm] at HM
  rw [hu] at HU
  rw [decide_eq_false hn] at HH
  obtain ⟨p0, p1, p2⟩ := C0.cb
  go_enter Try.func10, Try.ntmps10
  go_wp2_with fail
  generalize ((w.alloc (.cells #[.int .i64 a, .int .i64 o, .slice A l.length c] 24)).alloc (.cells #[.int .i64 0, .int .i64 0, .slice none 0 0] 24)) = W0 at *
  clear p0 p1 p2
  refine HM.out.mono ?_
  rintro e w1 ⟨rfl, B1⟩
  have BE := BW.trans (B1.mono BW.size)
  have C1 := C0.on B1 C0.lt
  have X1 := X0.on B1 X0.lt
  have HS1 := Lib.hid (HH.out w1 BE)
  clear HH
  obtain ⟨p0, p1, p2⟩ := C1.cb
  obtain ⟨q0, q1, q2⟩ := X1.cb
  have f0 := X1.free 0
  have f1 := X1.free 1
  have f2 := X1.free 2
  go_wp2_with fail
  refine (HU _).out.mono ?_
  rintro e w2 ⟨rfl, rfl⟩
  go_wp2_with fail
  refine HS1.out.mono ?_
  rintro e w2 ⟨rfl, rfl⟩
  go_wp2_with fail
  exact bodyPost_ret (run_res10 (B := w.heap.size + 1) rfl rfl (X1.put 0 0 none 0 0).cb) rfl ⟨none, 0, rfl, Nat.le_refl _, .nil, put_below _ BE (by omega) _ _ _⟩


theorem thru_len {n : Int} {l : List Int} {k : Nat} (hk : k ≤ l.length) (hr : rise l) (hn : n ∉ l) : (thru n (l.take k)).1.length ≤ k + 1 := by
  rw [thru_is k hk hr hn]
  split
  · show (l.take (pos n l) ++ n :: (l.take k).drop (pos n l)).length ≤ k + 1
    rw [List.length_append, List.length_cons, List.length_drop, List.length_take, List.length_take]
    omega
  · show (l.take k).length ≤ k + 1
    rw [List.length_take]; omega
theorem thru_next {n : Int} {l : List Int} {k : Nat} (hk : k < l.length) : thru n (l.take (k + 1)) = ((if !(thru n (l.take k)).2 && decide (n < l.getD k 0) then (thru n (l.take k)).1 ++ [n] else (thru n (l.take k)).1) ++ [l.getD k 0], (thru n (l.take k)).2 || decide (n < l.getD k 0)) := by
  rw [← thru_snoc, List.take_add_one, getD_some hk]
  rfl

set_option maxHeartbeats 4000000 in
theorem rjoin_ok (a o : Int) (A : Option Addr) (c : Nat) (l : List Int) (n : Int) (w : World) (hl : l.length ≤ 1000) (hc : l.length ≤ c) (hs : Sl w w.heap.size .i64 A l) (hm : mb a o l = true) (hu : usr n = true) (hn : ¬ n ∈ l) (h16 : ¬ 16 ≤ (l.length : Int)) : Calls Try.prog 10 #[.agg #[.int .i64 a, .int .i64 o, .slice A l.length c], .int .i64 n] w (ChPost w (⟨a, o, ins n l⟩, 0)) := by
  obtain ⟨i0, hi, hz0, hz1, hz2⟩ := info_parts info3
  have BW : Below w.heap.size w ((w.alloc (.cells #[.int .i64 a, .int .i64 o, .slice A l.length c] 24)).alloc (.cells #[.int .i64 0, .int .i64 0, .slice none 0 0] 24)) := ((Below.refl _ _).alloc (Nat.le_refl _) _).alloc (by simp) _
  have C0 : Cx ((w.alloc (.cells #[.int .i64 a, .int .i64 o, .slice A l.length c] 24)).alloc (.cells #[.int .i64 0, .int .i64 0, .slice none 0 0] 24)) w.heap.size a o A l.length c := (cx_new w a o A l.length c).old _
  have X0 : Cx ((w.alloc (.cells #[.int .i64 a, .int .i64 o, .slice A l.length c] 24)).alloc (.cells #[.int .i64 0, .int .i64 0, .slice none 0 0] 24)) (w.heap.size + 1) 0 0 none 0 0 := by
    have := cx_new (w.alloc (.cells #[.int .i64 a, .int .i64 o, .slice A l.length c] 24)) 0 0 none 0 0
    rw [show (w.alloc (.cells #[.int .i64 a, .int .i64 o, .slice A l.length c] 24)).heap.size = w.heap.size + 1 by simp] at this
    exact this
  have Z0 : ((w.alloc (.cells #[.int .i64 a, .int .i64 o, .slice A l.length c] 24)).alloc (.cells #[.int .i64 0, .int .i64 0, .slice none 0 0] 24)).heap.size = w.heap.size + 2 := by simp
  have HM : Hid (Calls Try.prog 17 #[.agg #[.int .i64 a, .int .i64 o, .slice A l.length c]] ((w.alloc (.cells #[.int .i64 a, .int .i64 o, .slice A l.length c] 24)).alloc (.cells #[.int .i64 0, .int .i64 0, .slice none 0 0] 24)) (BoolPost ((w.alloc (.cells #[.int .i64 a, .int .i64 o, .slice A l.length c] 24)).alloc (.cells #[.int .i64 0, .int .i64 0, .slice none 0 0] 24)) (mb a o l))) := rmay_any a o A c l _ hl (hs.to BW BW.size)
  have HU : ∀ W, Hid (Calls Try.prog 23 #[.int .i64 n] W fun e w' => e = .returned (.bool (usr n)) ∧ W = w') := fun W => ruser_any n W
  have HH : Hid (∀ W, Below w.heap.size w W → Calls Try.prog 24 #[.slice A l.length c, .int .i64 n] W fun e w' => e = .returned (.bool (decide (n ∈ l))) ∧ W = w') := fun W hB => rhas_any A c w.heap.size l n W hl (hs.below hB)
  rw [hm] at HM
  rw [hu] at HU
  rw [decide_eq_false hn] at HH
  have hr : rise l := (mb_iff.1 hm).2.2.2.1
  have HL : Hid (∀ k, k ≤ l.length → (thru n (l.take k)).1.length ≤ k + 1) := fun k hk => thru_len hk hr hn
  have HT : Hid (∀ k, k < l.length → thru n (l.take (k + 1)) = ((if !(thru n (l.take k)).2 && decide (n < l.getD k 0) then (thru n (l.take k)).1 ++ [n] else (thru n (l.take k)).1) ++ [l.getD k 0], (thru n (l.take k)).2 || decide (n < l.getD k 0))) := fun k hk => thru_next hk
  have HE : Hid ((if (thru n (l.take l.length)).2 = true then (thru n (l.take l.length)).1 else (thru n (l.take l.length)).1 ++ [n]) = ins n l) := by
    rw [List.take_length]; exact thru_ins hr hn
  have HS0 := Lib.hid (hs.to BW BW.size)
  clear hr hs
  generalize ins n l = l' at *
  obtain ⟨p0, p1, p2⟩ := C0.cb
  go_enter Try.func10, Try.ntmps10
  go_wp2_with fail
  generalize ((w.alloc (.cells #[.int .i64 a, .int .i64 o, .slice A l.length c] 24)).alloc (.cells #[.int .i64 0, .int .i64 0, .slice none 0 0] 24)) = W0 at *
  clear p0 p1 p2
  refine HM.out.mono ?_
  rintro e w1 ⟨rfl, B1⟩
  have BE := BW.trans (B1.mono BW.size)
  have C1 := C0.on B1 C0.lt
  have X1 := X0.on B1 X0.lt
  have HS1 := Lib.hid (HH.out w1 BE)
  clear HH
  have s1 := B1.size
  have HS2 : Sl w1 w1.heap.size .i64 A l := HS0.out.to B1 s1
  obtain ⟨p0, p1, p2⟩ := C1.cb
  obtain ⟨q0, q1, q2⟩ := X1.cb
  have f0 := X1.free 0
  have f1 := X1.free 1
  have f2 := X1.free 2
  go_wp2_with fail
  refine (HU _).out.mono ?_
  rintro e w2 ⟨rfl, rfl⟩
  go_wp2_with fail
  refine HS1.out.mono ?_
  rintro e w2 ⟨rfl, rfl⟩
  go_wp2
  clear p0 p1 p2 q0 q1 q2 f0 f1 f2 HU HM HS1 HS0
  go_loopw [9, 10, 11] (fun m d i wr => ∃ k : Nat, k ≤ l.length ∧ d = .bool (thru n (l.take k)).2 ∧ i = .int .i64 (k : Int) ∧ Hid (wr.ownsRow w1.heap.size 3 1 m (thru n (l.take k)).1.length ((thru n (l.take k)).1.map (Value.int .i64))) ∧ Below w1.heap.size w1 wr) (fun _ _ i _ => l.length - (intOf i).toNat)
  case atStart => exact ⟨0, by omega, rfl, rfl, World.ownsRow_nil _ _ _ _, Below.refl _ _⟩
  case round =>
    obtain ⟨k, hk, rfl, rfl, hown, hB⟩ := hrel
    have hsz := hB.size
    have HL1 := HL.out k hk
    obtain ⟨p0, p1, p2⟩ := C1.cb.on hB (by omega)
    by_cases hlt : k < l.length
    · obtain ⟨b, off, rfl, hbl, hcell0⟩ := HS2.at_ hlt
      have hcell := (hB.cell (p := ⟨b, off + k, none⟩) hbl).trans hcell0
      have HT1 := Lib.hid (HT.out k hlt)
      have hki : (k : Int) < (l.length : Int) := by omega
      clear HT HL HE
      generalize thru n (l.take k) = T1 at *
      obtain ⟨xs, d⟩ := T1
      simp only at HL1 hown HT1
      generalize l.getD k 0 = x at *
      cases d
      · by_cases hx : n < x
        · have HT2 : Hid (thru n (l.take (k + 1)) = (xs ++ [n] ++ [x], true)) := Lib.hid (by rw [HT1.out, decide_eq_true hx]; rfl)
          clear HT1
          have hx2 : x > n := hx
          have h17 : (xs ++ [n]).length ≤ k + 2 := by rw [List.length_append]; show xs.length + 1 ≤ k + 2; omega
          go_wp2_with (first | (at_builtin; refine wpList_append_own _ rfl (.tmp 52) (.tmp 54) 22 rfl w1.heap.size 3 i0 (.int .i64 0) 1 8 Try.underlying22 hi hz0 hz1 hz2 rfl (by decide) _ xs.length (xs.map (Value.int .i64)) rfl (hown.out.alloc _) ⟨wr.heap.size, 0, none⟩ 1 1 [.int .i64 n] rfl rfl (one_cell wr n) (one_one n) (by unfold maxLen; omega) (by omega) (by simp; omega) ?_; intro v3 w3 hown3 hgrow3 _; have g3 := Lib.hid (own_more hown3 rfl rfl); have BB3 := (hB.alloc hsz _).grown hgrow3 (by simp; omega) (fun k hk => (hown.out.lt k hk).1); have sz3 := BB3.size; obtain ⟨_, _, pp2⟩ := C1.cb.on BB3 (by omega); have hcell3 := (BB3.cell (p := ⟨b, off + k, none⟩) hbl).trans hcell0) | (at_builtin; refine wpList_append_own _ rfl (.tmp 56) (.tmp 62) 22 rfl w1.heap.size 3 i0 (.int .i64 0) 1 8 Try.underlying22 hi hz0 hz1 hz2 rfl (by decide) v3 (xs ++ [n]).length ((xs ++ [n]).map (Value.int .i64)) rfl (g3.out.alloc _) ⟨w3.heap.size, 0, none⟩ 1 1 [.int .i64 x] rfl rfl (one_cell w3 x) (one_one x) (by unfold maxLen; omega) (by omega) (by simp; omega) ?_; intro v4 w4 hown4 hgrow4 _; have g4 := Lib.hid (own_more hown4 rfl rfl); have BB4 := (BB3.alloc sz3 _).grown hgrow4 (by simp; omega) (fun k hk => (g3.out.lt k hk).1)))
          go_roundw
          case rel => exact ⟨k + 1, by omega, by rw [HT2.out], by go_num, by rw [HT2.out]; exact g4, BB4⟩
          case measure => simp [intOf]; omega
        · have HT2 : Hid (thru n (l.take (k + 1)) = (xs ++ [x], false)) := Lib.hid (by rw [HT1.out, decide_eq_false hx]; rfl)
          clear HT1
          have hx2 : ¬ x > n := hx
          go_wp2_with ((at_builtin; refine wpList_append_own _ rfl (.tmp 56) (.tmp 62) 22 rfl w1.heap.size 3 i0 (.int .i64 0) 1 8 Try.underlying22 hi hz0 hz1 hz2 rfl (by decide) _ xs.length (xs.map (Value.int .i64)) rfl (hown.out.alloc _) ⟨wr.heap.size, 0, none⟩ 1 1 [.int .i64 x] rfl rfl (one_cell wr x) (one_one x) (by unfold maxLen; omega) (by omega) (by simp; omega) ?_; intro v4 w4 hown4 hgrow4 _; have g4 := Lib.hid (own_more hown4 rfl rfl); have BB4 := (hB.alloc hsz _).grown hgrow4 (by simp; omega) (fun k hk => (hown.out.lt k hk).1)))
          go_roundw
          case rel => exact ⟨k + 1, by omega, by rw [HT2.out], by go_num, by rw [HT2.out]; exact g4, BB4⟩
          case measure => simp [intOf]; omega
      · have HT2 : Hid (thru n (l.take (k + 1)) = (xs ++ [x], true)) := Lib.hid (by rw [HT1.out]; rfl)
        clear HT1
        go_wp2_with ((at_builtin; refine wpList_append_own _ rfl (.tmp 56) (.tmp 62) 22 rfl w1.heap.size 3 i0 (.int .i64 0) 1 8 Try.underlying22 hi hz0 hz1 hz2 rfl (by decide) _ xs.length (xs.map (Value.int .i64)) rfl (hown.out.alloc _) ⟨wr.heap.size, 0, none⟩ 1 1 [.int .i64 x] rfl rfl (one_cell wr x) (one_one x) (by unfold maxLen; omega) (by omega) (by simp; omega) ?_; intro v4 w4 hown4 hgrow4 _; have g4 := Lib.hid (own_more hown4 rfl rfl); have BB4 := (hB.alloc hsz _).grown hgrow4 (by simp; omega) (fun k hk => (hown.out.lt k hk).1)))
        go_roundw
        case rel => exact ⟨k + 1, by omega, by rw [HT2.out], by go_num, by rw [HT2.out]; exact g4, BB4⟩
        case measure => simp [intOf]; omega
    · obtain rfl : k = l.length := by omega
      clear HT HL
      generalize thru n (l.take l.length) = T1 at *
      obtain ⟨xs, d⟩ := T1
      simp only at HL1 hown HE
      cases d
      · have HE2 : Hid (l' = xs ++ [n]) := Lib.hid (by have := HE.out; rw [if_neg (by simp)] at this; exact this.symm)
        clear HE
        go_wp2_with ((at_builtin; refine wpList_append_own _ rfl (.tmp 66) (.tmp 68) 22 rfl w1.heap.size 3 i0 (.int .i64 0) 1 8 Try.underlying22 hi hz0 hz1 hz2 rfl (by decide) _ xs.length (xs.map (Value.int .i64)) rfl (hown.out.alloc _) ⟨wr.heap.size, 0, none⟩ 1 1 [.int .i64 n] rfl rfl (one_cell wr n) (one_one n) (by unfold maxLen; omega) (by omega) (by simp; omega) ?_; intro v3 w3 hown3 hgrow3 _; have g3 := own_more hown3 rfl HE2.out; have BB3 := (hB.alloc hsz _).grown hgrow3 (by simp; omega) (fun k hk => (hown.out.lt k hk).1); have sz3 := BB3.size; obtain ⟨E, ce, hv, hce, hf⟩ := own_fr g3; subst hv; obtain ⟨pp0, pp1, pp2⟩ := C1.cb.on BB3 (by omega); have XX := X1.on BB3 (by omega); obtain ⟨q0, q1, q2⟩ := XX.cb; have f0 := XX.free 0; have f1 := XX.free 1; have f2 := XX.free 2))
        exact bodyPost_ret (run_res10 (B := w.heap.size + 1) rfl rfl (XX.put a o E l'.length ce).cb) rfl ⟨E, ce, rfl, hce, (((hf.set _ (by show w.heap.size + 1 < w1.heap.size; omega) _).set _ (by show w.heap.size + 1 < w1.heap.size; omega) _).set _ (by show w.heap.size + 1 < w1.heap.size; omega) _).low (by omega), put_below _ (BE.trans (BB3.mono BE.size)) (by omega) _ _ _⟩
      · have HE2 : Hid (xs = l') := Lib.hid (by have := HE.out; rw [if_pos rfl] at this; exact this)
        obtain rfl := HE2.out
        clear HE HE2
        obtain ⟨E, ce, rfl, hce, hf⟩ := own_fr hown.out
        have XX := X1.on hB (by omega)
        obtain ⟨q0, q1, q2⟩ := XX.cb
        have f0 := XX.free 0
        have f1 := XX.free 1
        have f2 := XX.free 2
        go_wp2_with fail
        exact bodyPost_ret (run_res10 (B := w.heap.size + 1) rfl rfl (XX.put a o E xs.length ce).cb) rfl ⟨E, ce, rfl, hce, (((hf.set _ (by show w.heap.size + 1 < w1.heap.size; omega) _).set _ (by show w.heap.size + 1 < w1.heap.size; omega) _).set _ (by show w.heap.size + 1 < w1.heap.size; omega) _).low (by omega), put_below _ (BE.trans (hB.mono BE.size)) (by omega) _ _ _⟩

theorem rjoin_any (a o : Int) (A : Option Addr) (c : Nat) (l : List Int) (n : Int) (w : World) (hl : l.length ≤ 1000) (hc : l.length ≤ c) (hs : Sl w w.heap.size .i64 A l) : Calls Try.prog 10 #[.agg #[.int .i64 a, .int .i64 o, .slice A l.length c], .int .i64 n] w (ChPost w (joins ⟨a, o, l⟩ n)) := by
  unfold joins
  by_cases hm : mb a o l = true
  · have hm' := mb_iff.1 hm
    by_cases hu : usr n = true
    · rw [if_neg (fun q => q ⟨hm', hu⟩)]
      by_cases hn : n ∈ l
      · rw [if_pos hn]; exact rjoin_there a o A c l n w hl hc hs hm hu hn
      · rw [if_neg hn]
        by_cases hf : 16 ≤ l.length
        · rw [if_pos hf]; exact rjoin_full a o A c l n w hl hc hs hm hu hn (by omega)
        · rw [if_neg hf]; exact rjoin_ok a o A c l n w hl hc hs hm hu hn (by omega)
    · rw [if_pos (fun q => hu q.2)]
      exact rjoin_usr a o A c l n w hl hc hs hm (by simpa using hu)
  · rw [if_pos (fun q => hm (mb_iff.2 q.1))]
    exact rjoin_arg a o A c l n w hl hc hs (by simpa using hm)

end Go.Proofs.Ytpelopfbdfnmeaa
