/-
  The walk of Join: a channel with a user more. Conditions: at most 1000 members.
-/
import Derived.Test.YtpelopfbdfnmeaaWi
namespace Go.Proofs.Ytpelopfbdfnmeaa
open Go.RowKit
set_option linter.unusedVariables false

theorem run_res9 {V : World} {tm : Array Value} {B : Nat} {a o e : Int} {A : Option Addr} {n c : Nat} (h4 : tm[4]?.getD undef = .pointer (some ⟨B, 0, none⟩)) (h5 : tm[5]?.getD undef = .int .i64 e) (hb : Cb V B a o A n c) :
    (results Try.f9 tm).run Try.prog V = .ok (.tuple #[.agg #[.int .i64 a, .int .i64 o, .slice A n c], .int .i64 e]) V := by
  obtain ⟨c0, c1, c2⟩ := hb
  simp [results, Try.results9, h4, h5, go_sem, c0, c1, c2]
theorem run_res10 {V : World} {tm : Array Value} {B : Nat} {a o e : Int} {A : Option Addr} {n c : Nat} (h4 : tm[4]?.getD undef = .pointer (some ⟨B, 0, none⟩)) (h5 : tm[5]?.getD undef = .int .i64 e) (hb : Cb V B a o A n c) :
    (results Try.f10 tm).run Try.prog V = .ok (.tuple #[.agg #[.int .i64 a, .int .i64 o, .slice A n c], .int .i64 e]) V := by
  obtain ⟨c0, c1, c2⟩ := hb
  simp [results, Try.results10, h4, h5, go_sem, c0, c1, c2]
theorem run_res11 {V : World} {tm : Array Value} {B : Nat} {a o e : Int} {A : Option Addr} {n c : Nat} (h4 : tm[4]?.getD undef = .pointer (some ⟨B, 0, none⟩)) (h5 : tm[5]?.getD undef = .int .i64 e) (hb : Cb V B a o A n c) :
    (results Try.f11 tm).run Try.prog V = .ok (.tuple #[.agg #[.int .i64 a, .int .i64 o, .slice A n c], .int .i64 e]) V := by
  obtain ⟨c0, c1, c2⟩ := hb
  simp [results, Try.results11, h4, h5, go_sem, c0, c1, c2]
theorem run_res12 {V : World} {tm : Array Value} {B : Nat} {a o e : Int} {A : Option Addr} {n c : Nat} (h4 : tm[4]?.getD undef = .pointer (some ⟨B, 0, none⟩)) (h5 : tm[5]?.getD undef = .int .i64 e) (hb : Cb V B a o A n c) :
    (results Try.f12 tm).run Try.prog V = .ok (.tuple #[.agg #[.int .i64 a, .int .i64 o, .slice A n c], .int .i64 e]) V := by
  obtain ⟨c0, c1, c2⟩ := hb
  simp [results, Try.results12, h4, h5, go_sem, c0, c1, c2]
theorem run_res13 {V : World} {tm : Array Value} {B : Nat} {a o e : Int} {A : Option Addr} {n c : Nat} (h4 : tm[4]?.getD undef = .pointer (some ⟨B, 0, none⟩)) (h5 : tm[5]?.getD undef = .int .i64 e) (hb : Cb V B a o A n c) :
    (results Try.f13 tm).run Try.prog V = .ok (.tuple #[.agg #[.int .i64 a, .int .i64 o, .slice A n c], .int .i64 e]) V := by
  obtain ⟨c0, c1, c2⟩ := hb
  simp [results, Try.results13, h4, h5, go_sem, c0, c1, c2]
theorem run_res14 {V : World} {tm : Array Value} {B : Nat} {a o e : Int} {A : Option Addr} {n c : Nat} (h4 : tm[4]?.getD undef = .pointer (some ⟨B, 0, none⟩)) (h5 : tm[5]?.getD undef = .int .i64 e) (hb : Cb V B a o A n c) :
    (results Try.f14 tm).run Try.prog V = .ok (.tuple #[.agg #[.int .i64 a, .int .i64 o, .slice A n c], .int .i64 e]) V := by
  obtain ⟨c0, c1, c2⟩ := hb
  simp [results, Try.results14, h4, h5, go_sem, c0, c1, c2]

theorem join_arg (a o : Int) (A : Option Addr) (c : Nat) (l : List Int) (n : Int) (w : World) (hl : l.length ≤ 1000) (hc : l.length ≤ c) (hs : Sl w w.heap.size .i64 A l) (hm : mb a o l = false) : Calls Try.prog 9 #[.agg #[.int .i64 a, .int .i64 o, .slice A l.length c], .int .i64 n] w (ChPost w (Ch.none, 1)) := by
  have BW : Below w.heap.size w ((w.alloc (.cells #[.int .i64 a, .int .i64 o, .slice A l.length c] 24)).alloc (.cells #[.int .i64 0, .int .i64 0, .slice none 0 0] 24)) := ((Below.refl _ _).alloc (Nat.le_refl _) _).alloc (by simp) _
  have C0 : Cx ((w.alloc (.cells #[.int .i64 a, .int .i64 o, .slice A l.length c] 24)).alloc (.cells #[.int .i64 0, .int .i64 0, .slice none 0 0] 24)) w.heap.size a o A l.length c := (cx_new w a o A l.length c).old _
  have X0 : Cx ((w.alloc (.cells #[.int .i64 a, .int .i64 o, .slice A l.length c] 24)).alloc (.cells #[.int .i64 0, .int .i64 0, .slice none 0 0] 24)) (w.heap.size + 1) 0 0 none 0 0 := by
    have := cx_new (w.alloc (.cells #[.int .i64 a, .int .i64 o, .slice A l.length c] 24)) 0 0 none 0 0
    rw [show (w.alloc (.cells #[.int .i64 a, .int .i64 o, .slice A l.length c] 24)).heap.size = w.heap.size + 1 by simp] at this
    exact this
  have Z0 : ((w.alloc (.cells #[.int .i64 a, .int .i64 o, .slice A l.length c] 24)).alloc (.cells #[.int .i64 0, .int .i64 0, .slice none 0 0] 24)).heap.size = w.heap.size + 2 := by simp
  have HM : Hid (Calls Try.prog 16 #[.agg #[.int .i64 a, .int .i64 o, .slice A l.length c]] ((w.alloc (.cells #[.int .i64 a, .int .i64 o, .slice A l.length c] 24)).alloc (.cells #[.int .i64 0, .int .i64 0, .slice none 0 0] 24)) (BoolPost ((w.alloc (.cells #[.int .i64 a, .int .i64 o, .slice A l.length c] 24)).alloc (.cells #[.int .i64 0, .int .i64 0, .slice none 0 0] 24)) (mb a o l))) := may_any a o A c l _ hl (hs.to BW BW.size)
  rw [hm] at HM
  obtain ⟨p0, p1, p2⟩ := C0.cb
  go_enter Try.func9, Try.ntmps9
  go_wp2_with fail
  generalize ((w.alloc (.cells #[.int .i64 a, .int .i64 o, .slice A l.length c] 24)).alloc (.cells #[.int .i64 0, .int .i64 0, .slice none 0 0] 24)) = W0 at *
  clear p0 p1 p2
  refine HM.out.mono ?_
  rintro e w1 ⟨rfl, B1⟩
  have BE := BW.trans (B1.mono BW.size)
  have C1 := C0.on B1 C0.lt
  have X1 := X0.on B1 X0.lt
  obtain ⟨p0, p1, p2⟩ := C1.cb
  obtain ⟨q0, q1, q2⟩ := X1.cb
  have f0 := X1.free 0
  have f1 := X1.free 1
  have f2 := X1.free 2
  go_wp2_with fail
  exact bodyPost_ret (run_res9 (B := w.heap.size + 1) rfl rfl (X1.put 0 0 none 0 0).cb) rfl ⟨none, 0, rfl, Nat.le_refl _, .nil, put_below _ BE (by omega) _ _ _⟩

theorem join_usr (a o : Int) (A : Option Addr) (c : Nat) (l : List Int) (n : Int) (w : World) (hl : l.length ≤ 1000) (hc : l.length ≤ c) (hs : Sl w w.heap.size .i64 A l) (hm : mb a o l = true) (hu : usr n = false) : Calls Try.prog 9 #[.agg #[.int .i64 a, .int .i64 o, .slice A l.length c], .int .i64 n] w (ChPost w (Ch.none, 1)) := by
  have BW : Below w.heap.size w ((w.alloc (.cells #[.int .i64 a, .int .i64 o, .slice A l.length c] 24)).alloc (.cells #[.int .i64 0, .int .i64 0, .slice none 0 0] 24)) := ((Below.refl _ _).alloc (Nat.le_refl _) _).alloc (by simp) _
  have C0 : Cx ((w.alloc (.cells #[.int .i64 a, .int .i64 o, .slice A l.length c] 24)).alloc (.cells #[.int .i64 0, .int .i64 0, .slice none 0 0] 24)) w.heap.size a o A l.length c := (cx_new w a o A l.length c).old _
  have X0 : Cx ((w.alloc (.cells #[.int .i64 a, .int .i64 o, .slice A l.length c] 24)).alloc (.cells #[.int .i64 0, .int .i64 0, .slice none 0 0] 24)) (w.heap.size + 1) 0 0 none 0 0 := by
    have := cx_new (w.alloc (.cells #[.int .i64 a, .int .i64 o, .slice A l.length c] 24)) 0 0 none 0 0
    rw [show (w.alloc (.cells #[.int .i64 a, .int .i64 o, .slice A l.length c] 24)).heap.size = w.heap.size + 1 by simp] at this
    exact this
  have Z0 : ((w.alloc (.cells #[.int .i64 a, .int .i64 o, .slice A l.length c] 24)).alloc (.cells #[.int .i64 0, .int .i64 0, .slice none 0 0] 24)).heap.size = w.heap.size + 2 := by simp
  have HM : Hid (Calls Try.prog 16 #[.agg #[.int .i64 a, .int .i64 o, .slice A l.length c]] ((w.alloc (.cells #[.int .i64 a, .int .i64 o, .slice A l.length c] 24)).alloc (.cells #[.int .i64 0, .int .i64 0, .slice none 0 0] 24)) (BoolPost ((w.alloc (.cells #[.int .i64 a, .int .i64 o, .slice A l.length c] 24)).alloc (.cells #[.int .i64 0, .int .i64 0, .slice none 0 0] 24)) (mb a o l))) := may_any a o A c l _ hl (hs.to BW BW.size)
  have HU : ∀ W, Hid (Calls Try.prog 20 #[.int .i64 n] W fun e w' => e = .returned (.bool (usr n)) ∧ W = w') := fun W => isuser_any n W
  rw [hm] at HM
  rw [hu] at HU
  obtain ⟨p0, p1, p2⟩ := C0.cb
  go_enter Try.func9, Try.ntmps9
  go_wp2_with fail
  generalize ((w.alloc (.cells #[.int .i64 a, .int .i64 o, .slice A l.length c] 24)).alloc (.cells #[.int .i64 0, .int .i64 0, .slice none 0 0] 24)) = W0 at *
  clear p0 p1 p2
  refine HM.out.mono ?_
  rintro e w1 ⟨rfl, B1⟩
  have BE := BW.trans (B1.mono BW.size)
  have C1 := C0.on B1 C0.lt
  have X1 := X0.on B1 X0.lt
  obtain ⟨p0, p1, p2⟩ := C1.cb
  obtain ⟨q0, q1, q2⟩ := X1.cb
  have f0 := X1.free 0
  have f1 := X1.free 1
  have f2 := X1.free 2
  go_wp2_with fail
  refine (HU _).out.mono ?_
  rintro e w2 ⟨rfl, rfl⟩
  go_wp2_with fail
  exact bodyPost_ret (run_res9 (B := w.heap.size + 1) rfl rfl (X1.put 0 0 none 0 0).cb) rfl ⟨none, 0, rfl, Nat.le_refl _, .nil, put_below _ BE (by omega) _ _ _⟩

theorem join_there (a o : Int) (A : Option Addr) (c : Nat) (l : List Int) (n : Int) (w : World) (hl : l.length ≤ 1000) (hc : l.length ≤ c) (hs : Sl w w.heap.size .i64 A l) (hm : mb a o l = true) (hu : usr n = true) (hn : n ∈ l) : Calls Try.prog 9 #[.agg #[.int .i64 a, .int .i64 o, .slice A l.length c], .int .i64 n] w (ChPost w (Ch.none, 6)) := by
  have BW : Below w.heap.size w ((w.alloc (.cells #[.int .i64 a, .int .i64 o, .slice A l.length c] 24)).alloc (.cells #[.int .i64 0, .int .i64 0, .slice none 0 0] 24)) := ((Below.refl _ _).alloc (Nat.le_refl _) _).alloc (by simp) _
  have C0 : Cx ((w.alloc (.cells #[.int .i64 a, .int .i64 o, .slice A l.length c] 24)).alloc (.cells #[.int .i64 0, .int .i64 0, .slice none 0 0] 24)) w.heap.size a o A l.length c := (cx_new w a o A l.length c).old _
  have X0 : Cx ((w.alloc (.cells #[.int .i64 a, .int .i64 o, .slice A l.length c] 24)).alloc (.cells #[.int .i64 0, .int .i64 0, .slice none 0 0] 24)) (w.heap.size + 1) 0 0 none 0 0 := by
    have := cx_new (w.alloc (.cells #[.int .i64 a, .int .i64 o, .slice A l.length c] 24)) 0 0 none 0 0
    rw [show (w.alloc (.cells #[.int .i64 a, .int .i64 o, .slice A l.length c] 24)).heap.size = w.heap.size + 1 by simp] at this
    exact this
  have Z0 : ((w.alloc (.cells #[.int .i64 a, .int .i64 o, .slice A l.length c] 24)).alloc (.cells #[.int .i64 0, .int .i64 0, .slice none 0 0] 24)).heap.size = w.heap.size + 2 := by simp
  have HM : Hid (Calls Try.prog 16 #[.agg #[.int .i64 a, .int .i64 o, .slice A l.length c]] ((w.alloc (.cells #[.int .i64 a, .int .i64 o, .slice A l.length c] 24)).alloc (.cells #[.int .i64 0, .int .i64 0, .slice none 0 0] 24)) (BoolPost ((w.alloc (.cells #[.int .i64 a, .int .i64 o, .slice A l.length c] 24)).alloc (.cells #[.int .i64 0, .int .i64 0, .slice none 0 0] 24)) (mb a o l))) := may_any a o A c l _ hl (hs.to BW BW.size)
  have HU : ∀ W, Hid (Calls Try.prog 20 #[.int .i64 n] W fun e w' => e = .returned (.bool (usr n)) ∧ W = w') := fun W => isuser_any n W
  have HS : Hid (∀ W, Below w.heap.size w W → Calls Try.prog 21 #[.slice A l.length c, .int .i64 n] W fun e w' => e = .returned (.tuple #[.int .i64 (pos n l : Int), .bool (decide (n ∈ l))]) ∧ W = w') := fun W hB => search_any A c w.heap.size l n W hl (mb_iff.1 hm).2.2.2.1 (hs.below hB)
  rw [hm] at HM
  rw [hu] at HU
  rw [decide_eq_true hn] at HS
  generalize pos n l = p at HS
  obtain ⟨p0, p1, p2⟩ := C0.cb
  go_enter Try.func9, Try.ntmps9
  go_wp2_with fail
  generalize ((w.alloc (.cells #[.int .i64 a, .int .i64 o, .slice A l.length c] 24)).alloc (.cells #[.int .i64 0, .int .i64 0, .slice none 0 0] 24)) = W0 at *
  clear p0 p1 p2
  refine HM.out.mono ?_
  rintro e w1 ⟨rfl, B1⟩
  have BE := BW.trans (B1.mono BW.size)
  have C1 := C0.on B1 C0.lt
  have X1 := X0.on B1 X0.lt
  have HS1 := Lib.hid (HS.out w1 BE)
  clear HS
  obtain ⟨p0, p1, p2⟩ := C1.cb
  obtain ⟨q0, q1, q2⟩ := X1.cb
  have f0 := X1.free 0
  have f1 := X1.free 1
  have f2 := X1.free 2
  go_wp2_with fail
  refine (HU _).out.mono ?_
  rintro e w2 ⟨rfl, rfl⟩
  go_wp2_with fail
  refine HS1.out.mono ?_
  rintro e w2 ⟨rfl, rfl⟩
  go_wp2_with fail
  exact bodyPost_ret (run_res9 (B := w.heap.size + 1) rfl rfl (X1.put 0 0 none 0 0).cb) rfl ⟨none, 0, rfl, Nat.le_refl _, .nil, put_below _ BE (by omega) _ _ _⟩

theorem join_full (a o : Int) (A : Option Addr) (c : Nat) (l : List Int) (n : Int) (w : World) (hl : l.length ≤ 1000) (hc : l.length ≤ c) (hs : Sl w w.heap.size .i64 A l) (hm : mb a o l = true) (hu : usr n = true) (hn : ¬ n ∈ l) (h16 : (l.length : Int) = 16) : Calls Try.prog 9 #[.agg #[.int .i64 a, .int .i64 o, .slice A l.length c], .int .i64 n] w (ChPost w (Ch.none, 7)) := by
  have BW : Below w.heap.size w ((w.alloc (.cells #[.int .i64 a, .int .i64 o, .slice A l.length c] 24)).alloc (.cells #[.int .i64 0, .int .i64 0, .slice none 0 0] 24)) := ((Below.refl _ _).alloc (Nat.le_refl _) _).alloc (by simp) _
  have C0 : Cx ((w.alloc (.cells #[.int .i64 a, .int .i64 o, .slice A l.length c] 24)).alloc (.cells #[.int .i64 0, .int .i64 0, .slice none 0 0] 24)) w.heap.size a o A l.length c := (cx_new w a o A l.length c).old _
  have X0 : Cx ((w.alloc (.cells #[.int .i64 a, .int .i64 o, .slice A l.length c] 24)).alloc (.cells #[.int .i64 0, .int .i64 0, .slice none 0 0] 24)) (w.heap.size + 1) 0 0 none 0 0 := by
    have := cx_new (w.alloc (.cells #[.int .i64 a, .int .i64 o, .slice A l.length c] 24)) 0 0 none 0 0
    rw [show (w.alloc (.cells #[.int .i64 a, .int .i64 o, .slice A l.length c] 24)).heap.size = w.heap.size + 1 by simp] at this
    exact this
  have Z0 : ((w.alloc (.cells #[.int .i64 a, .int .i64 o, .slice A l.length c] 24)).alloc (.cells #[.int .i64 0, .int .i64 0, .slice none 0 0] 24)).heap.size = w.heap.size + 2 := by simp
  have HM : Hid (Calls Try.prog 16 #[.agg #[.int .i64 a, .int .i64 o, .slice A l.length c]] ((w.alloc (.cells #[.int .i64 a, .int .i64 o, .slice A l.length c] 24)).alloc (.cells #[.int .i64 0, .int .i64 0, .slice none 0 0] 24)) (BoolPost ((w.alloc (.cells #[.int .i64 a, .int .i64 o, .slice A l.length c] 24)).alloc (.cells #[.int .i64 0, .int .i64 0, .slice none 0 0] 24)) (mb a o l))) := may_any a o A c l _ hl (hs.to BW BW.size)
  have HU : ∀ W, Hid (Calls Try.prog 20 #[.int .i64 n] W fun e w' => e = .returned (.bool (usr n)) ∧ W = w') := fun W => isuser_any n W
  have HS : Hid (∀ W, Below w.heap.size w W → Calls Try.prog 21 #[.slice A l.length c, .int .i64 n] W fun e w' => e = .returned (.tuple #[.int .i64 (pos n l : Int), .bool (decide (n ∈ l))]) ∧ W = w') := fun W hB => search_any A c w.heap.size l n W hl (mb_iff.1 hm).2.2.2.1 (hs.below hB)
  rw [hm] at HM
  rw [hu] at HU
  rw [decide_eq_false hn] at HS
  generalize pos n l = p at HS
  obtain ⟨p0, p1, p2⟩ := C0.cb
  go_enter Try.func9, Try.ntmps9
  go_wp2_with fail
  generalize ((w.alloc (.cells #[.int .i64 a, .int .i64 o, .slice A l.length c] 24)).alloc (.cells #[.int .i64 0, .int .i64 0, .slice none 0 0] 24)) = W0 at *
  clear p0 p1 p2
  refine HM.out.mono ?_
  rintro e w1 ⟨rfl, B1⟩
  have BE := BW.trans (B1.mono BW.size)
  have C1 := C0.on B1 C0.lt
  have X1 := X0.on B1 X0.lt
  have HS1 := Lib.hid (HS.out w1 BE)
  clear HS
  obtain ⟨p0, p1, p2⟩ := C1.cb
  obtain ⟨q0, q1, q2⟩ := X1.cb
  have f0 := X1.free 0
  have f1 := X1.free 1
  have f2 := X1.free 2
  go_wp2_with fail
  refine (HU _).out.mono ?_
  rintro e w2 ⟨rfl, rfl⟩
  go_wp2_with fail
  refine HS1.out.mono ?_
  rintro e w2 ⟨rfl, rfl⟩
  go_wp2_with fail
  exact bodyPost_ret (run_res9 (B := w.heap.size + 1) rfl rfl (X1.put 0 0 none 0 0).cb) rfl ⟨none, 0, rfl, Nat.le_refl _, .nil, put_below _ BE (by omega) _ _ _⟩

set_option maxHeartbeats 1000000 in
theorem join_ok (a o : Int) (A : Option Addr) (c : Nat) (l : List Int) (n : Int) (w : World) (hl : l.length ≤ 1000) (hc : l.length ≤ c) (hs : Sl w w.heap.size .i64 A l) (hm : mb a o l = true) (hu : usr n = true) (hn : ¬ n ∈ l) (h16 : ((l.length : Int) == 16) = false) : Calls Try.prog 9 #[.agg #[.int .i64 a, .int .i64 o, .slice A l.length c], .int .i64 n] w (ChPost w (⟨a, o, ins n l⟩, 0)) := by
  have BW : Below w.heap.size w ((w.alloc (.cells #[.int .i64 a, .int .i64 o, .slice A l.length c] 24)).alloc (.cells #[.int .i64 0, .int .i64 0, .slice none 0 0] 24)) := ((Below.refl _ _).alloc (Nat.le_refl _) _).alloc (by simp) _
  have C0 : Cx ((w.alloc (.cells #[.int .i64 a, .int .i64 o, .slice A l.length c] 24)).alloc (.cells #[.int .i64 0, .int .i64 0, .slice none 0 0] 24)) w.heap.size a o A l.length c := (cx_new w a o A l.length c).old _
  have X0 : Cx ((w.alloc (.cells #[.int .i64 a, .int .i64 o, .slice A l.length c] 24)).alloc (.cells #[.int .i64 0, .int .i64 0, .slice none 0 0] 24)) (w.heap.size + 1) 0 0 none 0 0 := by
    have := cx_new (w.alloc (.cells #[.int .i64 a, .int .i64 o, .slice A l.length c] 24)) 0 0 none 0 0
    rw [show (w.alloc (.cells #[.int .i64 a, .int .i64 o, .slice A l.length c] 24)).heap.size = w.heap.size + 1 by simp] at this
    exact this
  have Z0 : ((w.alloc (.cells #[.int .i64 a, .int .i64 o, .slice A l.length c] 24)).alloc (.cells #[.int .i64 0, .int .i64 0, .slice none 0 0] 24)).heap.size = w.heap.size + 2 := by simp
  have HM : Hid (Calls Try.prog 16 #[.agg #[.int .i64 a, .int .i64 o, .slice A l.length c]] ((w.alloc (.cells #[.int .i64 a, .int .i64 o, .slice A l.length c] 24)).alloc (.cells #[.int .i64 0, .int .i64 0, .slice none 0 0] 24)) (BoolPost ((w.alloc (.cells #[.int .i64 a, .int .i64 o, .slice A l.length c] 24)).alloc (.cells #[.int .i64 0, .int .i64 0, .slice none 0 0] 24)) (mb a o l))) := may_any a o A c l _ hl (hs.to BW BW.size)
  have HU : ∀ W, Hid (Calls Try.prog 20 #[.int .i64 n] W fun e w' => e = .returned (.bool (usr n)) ∧ W = w') := fun W => isuser_any n W
  have HS : Hid (∀ W, Below w.heap.size w W → Calls Try.prog 21 #[.slice A l.length c, .int .i64 n] W fun e w' => e = .returned (.tuple #[.int .i64 (pos n l : Int), .bool (decide (n ∈ l))]) ∧ W = w') := fun W hB => search_any A c w.heap.size l n W hl (mb_iff.1 hm).2.2.2.1 (hs.below hB)
  have HW : Hid (∀ W, Below w.heap.size w W → Calls Try.prog 22 #[.slice A l.length c, .int .i64 (pos n l : Int), .int .i64 n] W (RowPost W (ins n l))) := fun W hB => with_any A c l (pos n l) n W hl (pos_le n l) hc (hs.to hB hB.size)
  rw [hm] at HM
  rw [hu] at HU
  rw [decide_eq_false hn] at HS
  generalize ins n l = l' at *
  generalize pos n l = p at *
  obtain ⟨p0, p1, p2⟩ := C0.cb
  go_enter Try.func9, Try.ntmps9
  go_wp2_with fail
  generalize ((w.alloc (.cells #[.int .i64 a, .int .i64 o, .slice A l.length c] 24)).alloc (.cells #[.int .i64 0, .int .i64 0, .slice none 0 0] 24)) = W0 at *
  clear p0 p1 p2
  refine HM.out.mono ?_
  rintro e w1 ⟨rfl, B1⟩
  have BE := BW.trans (B1.mono BW.size)
  have C1 := C0.on B1 C0.lt
  have X1 := X0.on B1 X0.lt
  have HS1 := Lib.hid (HS.out w1 BE)
  have HW1 := Lib.hid (HW.out w1 BE)
  clear HS HW
  obtain ⟨p0, p1, p2⟩ := C1.cb
  obtain ⟨q0, q1, q2⟩ := X1.cb
  have f0 := X1.free 0
  have f1 := X1.free 1
  have f2 := X1.free 2
  go_wp2_with fail
  refine (HU _).out.mono ?_
  rintro e w2 ⟨rfl, rfl⟩
  go_wp2_with fail
  refine HS1.out.mono ?_
  rintro e w2 ⟨rfl, rfl⟩
  go_wp2_with fail
  clear p0 p1 p2 q0 q1 q2 f0 f1 f2
  refine HW1.out.mono ?_
  rintro e w2 ⟨A2, c2, rfl, hc2, hf2, B2⟩
  have s1 := B1.size
  have BF := BE.trans (B2.mono BE.size)
  have C2 := C1.on B2 (by omega)
  have X2 := X1.on B2 (by omega)
  have C3 := C2.set2 A2 l'.length c2
  have X3 := X2.other (p := ⟨w.heap.size, 2, none⟩) (by show w.heap.size + 1 ≠ w.heap.size; omega) (.slice A2 l'.length c2)
  have BG := BF.setCell (p := ⟨w.heap.size, 2, none⟩) (Nat.le_refl _) (.slice A2 l'.length c2)
  have F3 := hf2.set ⟨w.heap.size, 2, none⟩ (by show w.heap.size < w1.heap.size; omega) (.slice A2 l'.length c2)
  have g2 := C2.free 2
  obtain ⟨_, _, p2⟩ := C2.cb
  obtain ⟨t0, t1, t2⟩ := C3.cb
  obtain ⟨q0, q1, q2⟩ := X3.cb
  have f0 := X3.free 0
  have f1 := X3.free 1
  have f2 := X3.free 2
  go_wp2_with fail
  exact bodyPost_ret (run_res9 (B := w.heap.size + 1) rfl rfl (X3.put a o A2 l'.length c2).cb) rfl ⟨A2, c2, rfl, hc2, (((F3.set _ (by show w.heap.size + 1 < w1.heap.size; omega) _).set _ (by show w.heap.size + 1 < w1.heap.size; omega) _).set _ (by show w.heap.size + 1 < w1.heap.size; omega) _).low (by omega), put_below _ BG (by omega) _ _ _⟩

theorem join_any (a o : Int) (A : Option Addr) (c : Nat) (l : List Int) (n : Int) (w : World) (hl : l.length ≤ 1000) (hc : l.length ≤ c) (hs : Sl w w.heap.size .i64 A l) : Calls Try.prog 9 #[.agg #[.int .i64 a, .int .i64 o, .slice A l.length c], .int .i64 n] w (ChPost w (joins ⟨a, o, l⟩ n)) := by
  unfold joins
  by_cases hm : mb a o l = true
  · have hm' := mb_iff.1 hm
    by_cases hu : usr n = true
    · rw [if_neg (fun q => q ⟨hm', hu⟩)]
      by_cases hn : n ∈ l
      · rw [if_pos hn]; exact join_there a o A c l n w hl hc hs hm hu hn
      · rw [if_neg hn]
        have h16 := hm'.2.1.2
        have h16' : l.length ≤ 16 := h16
        by_cases hf : 16 ≤ l.length
        · rw [if_pos hf]; exact join_full a o A c l n w hl hc hs hm hu hn (by omega)
        · rw [if_neg hf]; exact join_ok a o A c l n w hl hc hs hm hu hn (by rw [beq_eq_false_iff_ne]; omega)
    · rw [if_pos (fun q => hu q.2)]
      exact join_usr a o A c l n w hl hc hs hm (by simpa using hu)
  · rw [if_pos (fun q => hm (mb_iff.2 q.1))]
    exact join_arg a o A c l n w hl hc hs (by simpa using hm)

end Go.Proofs.Ytpelopfbdfnmeaa
