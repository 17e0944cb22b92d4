/-
  Who is in a channel, and not its owner, may leave; nobody else may: PeopleLeave answers true whatever the channel and the user; they read as they did. Conditions: none.
-/
import Derived.Test.YtpelopfbdfnmeaaOpen
import Derived.Test.YtpelopfbdfnmeaaLe
import Derived.Test.YtpelopfbdfnmeaaAwk
import Derived.Deep.RegionLaw
namespace Go.Proofs.Ytpelopfbdfnmeaa.peopleLeave
open Go.ChangeShapes Go.WideShapes Go.ChangeAt Go.RowKit
set_option linter.unusedVariables false
set_option linter.unusedSimpArgs false

theorem long (a0 o0 : Int) (A0 : Option Addr) (c0 : Nat) (l0 : List Int) (a1 : Int) (w : World) (s0 : Sl w w.heap.size .i64 A0 l0) (m0 : l0.length ≤ c0) (hl : (100 : Int) < (l0.length : Int)) : Calls Try.prog 7 #[.agg #[.int .i64 a0, .int .i64 o0, .slice A0 l0.length c0], .int .i64 a1] w (UpPost w) := by
  have BE := box_below w a0 o0 A0 l0.length c0
  have C0 := (cx_new w a0 o0 A0 l0.length c0).cb
  have SC0 := s0.up BE
  clear s0
  go_enter Try.func7, Try.ntmps7
  go_wp2_with fail
  generalize w.alloc (.cells #[.int .i64 a0, .int .i64 o0, .slice A0 l0.length c0] 24) = W0 at *
  refine (awake_any W0).out.mono ?_
  rintro e w1 ⟨rfl, B1⟩
  replace C0 := C0.on B1 C0.lt
  replace SC0 := SC0.up B1
  replace BE := BE.trans (B1.mono BE.size)
  obtain ⟨pC00, pC01, pC02⟩ := id C0
  go_wp2
  go_ret
  exact ⟨rfl, BE⟩

theorem no (a0 o0 : Int) (A0 : Option Addr) (c0 : Nat) (l0 : List Int) (a1 : Int) (w : World) (s0 : Sl w w.heap.size .i64 A0 l0) (m0 : l0.length ≤ c0) (hl : ¬ (100 : Int) < (l0.length : Int)) (HM : ∀ A c W, l0.length ≤ c → Sl W W.heap.size .i64 A l0 → Hid (Calls Try.prog 16 #[.agg #[.int .i64 a0, .int .i64 o0, .slice A l0.length c]] W (BoolPost W false))) : Calls Try.prog 7 #[.agg #[.int .i64 a0, .int .i64 o0, .slice A0 l0.length c0], .int .i64 a1] w (UpPost w) := by
  have BE := box_below w a0 o0 A0 l0.length c0
  have C0 := (cx_new w a0 o0 A0 l0.length c0).cb
  have SC0 := s0.up BE
  clear s0
  go_enter Try.func7, Try.ntmps7
  go_wp2_with fail
  generalize w.alloc (.cells #[.int .i64 a0, .int .i64 o0, .slice A0 l0.length c0] 24) = W0 at *
  refine (awake_any W0).out.mono ?_
  rintro e w1 ⟨rfl, B1⟩
  replace C0 := C0.on B1 C0.lt
  replace SC0 := SC0.up B1
  replace BE := BE.trans (B1.mono BE.size)
  obtain ⟨pC00, pC01, pC02⟩ := id C0
  go_wp2_with fail
  clear pC00 pC01 pC02
  refine (HM _ _ _ m0 SC0).out.mono ?_
  rintro e w2 ⟨rfl, B2⟩
  replace C0 := C0.on B2 C0.lt
  replace SC0 := SC0.up B2
  replace BE := BE.trans (B2.mono BE.size)
  go_wp2
  go_ret
  exact ⟨rfl, BE⟩

theorem none_ (a0 o0 : Int) (A0 : Option Addr) (c0 : Nat) (l0 : List Int) (a1 : Int) (w : World) (s0 : Sl w w.heap.size .i64 A0 l0) (m0 : l0.length ≤ c0) (hl : ¬ (100 : Int) < (l0.length : Int)) (i o : Int) (l : List Int) (HM : ∀ A c W, l0.length ≤ c → Sl W W.heap.size .i64 A l0 → Hid (Calls Try.prog 16 #[.agg #[.int .i64 a0, .int .i64 o0, .slice A l0.length c]] W (BoolPost W true))) (HL : ∀ A c W, l0.length ≤ c → Sl W W.heap.size .i64 A l0 → Hid (Calls Try.prog 11 #[.agg #[.int .i64 a0, .int .i64 o0, .slice A l0.length c], .int .i64 a1] W (ChPo W i o l 5))) (HI : ∀ A c W, l0.length ≤ c → Sl W W.heap.size .i64 A l0 → Hid (Calls Try.prog 18 #[.agg #[.int .i64 a0, .int .i64 o0, .slice A l0.length c], .int .i64 a1] W (BoolPost W false))) : Calls Try.prog 7 #[.agg #[.int .i64 a0, .int .i64 o0, .slice A0 l0.length c0], .int .i64 a1] w (UpPost w) := by
  have BE := box_below w a0 o0 A0 l0.length c0
  have C0 := (cx_new w a0 o0 A0 l0.length c0).cb
  have SC0 := s0.up BE
  clear s0
  go_enter Try.func7, Try.ntmps7
  go_wp2_with fail
  generalize w.alloc (.cells #[.int .i64 a0, .int .i64 o0, .slice A0 l0.length c0] 24) = W0 at *
  refine (awake_any W0).out.mono ?_
  rintro e w1 ⟨rfl, B1⟩
  replace C0 := C0.on B1 C0.lt
  replace SC0 := SC0.up B1
  replace BE := BE.trans (B1.mono BE.size)
  obtain ⟨pC00, pC01, pC02⟩ := id C0
  go_wp2_with fail
  clear pC00 pC01 pC02
  refine (HM _ _ _ m0 SC0).out.mono ?_
  rintro e w2 ⟨rfl, B2⟩
  replace C0 := C0.on B2 C0.lt
  replace SC0 := SC0.up B2
  replace BE := BE.trans (B2.mono BE.size)
  obtain ⟨pC00, pC01, pC02⟩ := id C0
  go_wp2_with fail
  clear pC00 pC01 pC02
  refine (HL _ _ _ m0 SC0).out.mono ?_
  rintro e w3 ⟨A3, c3, rfl, hc3, hf3, B3⟩
  replace C0 := C0.on B3 C0.lt
  replace SC0 := SC0.up B3
  replace BE := BE.trans (B3.mono BE.size)
  have BB3 := box_below w3 i o A3 l.length c3
  replace C0 := C0.on BB3 C0.lt
  replace SC0 := SC0.up BB3
  replace BE := BE.trans (BB3.mono BE.size)
  have CX := (cx_new w3 i o A3 l.length c3).cb
  have SCX := hf3.sl.up BB3
  clear hf3
  obtain ⟨pC00, pC01, pC02⟩ := id C0
  obtain ⟨pCX0, pCX1, pCX2⟩ := id CX
  go_wp2_with fail
  clear pC00 pC01 pC02 pCX0 pCX1 pCX2
  generalize w3.alloc (.cells #[.int .i64 i, .int .i64 o, .slice A3 l.length c3] 24) = v3 at *
  refine (HI _ _ _ m0 SC0).out.mono ?_
  rintro e w4 ⟨rfl, B4⟩
  replace C0 := C0.on B4 C0.lt
  replace CX := CX.on B4 CX.lt
  replace SC0 := SC0.up B4
  replace SCX := SCX.up B4
  replace BE := BE.trans (B4.mono BE.size)
  go_wp2
  go_ret
  exact ⟨rfl, BE⟩

theorem deny (a0 o0 : Int) (A0 : Option Addr) (c0 : Nat) (l0 : List Int) (a1 : Int) (w : World) (s0 : Sl w w.heap.size .i64 A0 l0) (m0 : l0.length ≤ c0) (hl : ¬ (100 : Int) < (l0.length : Int)) (i o : Int) (l : List Int) (ho : (a1 == o0) = true) (HM : ∀ A c W, l0.length ≤ c → Sl W W.heap.size .i64 A l0 → Hid (Calls Try.prog 16 #[.agg #[.int .i64 a0, .int .i64 o0, .slice A l0.length c]] W (BoolPost W true))) (HL : ∀ A c W, l0.length ≤ c → Sl W W.heap.size .i64 A l0 → Hid (Calls Try.prog 11 #[.agg #[.int .i64 a0, .int .i64 o0, .slice A l0.length c], .int .i64 a1] W (ChPo W i o l 8))) (HI : ∀ A c W, l0.length ≤ c → Sl W W.heap.size .i64 A l0 → Hid (Calls Try.prog 18 #[.agg #[.int .i64 a0, .int .i64 o0, .slice A l0.length c], .int .i64 a1] W (BoolPost W true))) : Calls Try.prog 7 #[.agg #[.int .i64 a0, .int .i64 o0, .slice A0 l0.length c0], .int .i64 a1] w (UpPost w) := by
  have BE := box_below w a0 o0 A0 l0.length c0
  have C0 := (cx_new w a0 o0 A0 l0.length c0).cb
  have SC0 := s0.up BE
  clear s0
  go_enter Try.func7, Try.ntmps7
  go_wp2_with fail
  generalize w.alloc (.cells #[.int .i64 a0, .int .i64 o0, .slice A0 l0.length c0] 24) = W0 at *
  refine (awake_any W0).out.mono ?_
  rintro e w1 ⟨rfl, B1⟩
  replace C0 := C0.on B1 C0.lt
  replace SC0 := SC0.up B1
  replace BE := BE.trans (B1.mono BE.size)
  obtain ⟨pC00, pC01, pC02⟩ := id C0
  go_wp2_with fail
  clear pC00 pC01 pC02
  refine (HM _ _ _ m0 SC0).out.mono ?_
  rintro e w2 ⟨rfl, B2⟩
  replace C0 := C0.on B2 C0.lt
  replace SC0 := SC0.up B2
  replace BE := BE.trans (B2.mono BE.size)
  obtain ⟨pC00, pC01, pC02⟩ := id C0
  go_wp2_with fail
  clear pC00 pC01 pC02
  refine (HL _ _ _ m0 SC0).out.mono ?_
  rintro e w3 ⟨A3, c3, rfl, hc3, hf3, B3⟩
  replace C0 := C0.on B3 C0.lt
  replace SC0 := SC0.up B3
  replace BE := BE.trans (B3.mono BE.size)
  have BB3 := box_below w3 i o A3 l.length c3
  replace C0 := C0.on BB3 C0.lt
  replace SC0 := SC0.up BB3
  replace BE := BE.trans (BB3.mono BE.size)
  have CX := (cx_new w3 i o A3 l.length c3).cb
  have SCX := hf3.sl.up BB3
  clear hf3
  obtain ⟨pC00, pC01, pC02⟩ := id C0
  obtain ⟨pCX0, pCX1, pCX2⟩ := id CX
  go_wp2_with fail
  clear pC00 pC01 pC02 pCX0 pCX1 pCX2
  generalize w3.alloc (.cells #[.int .i64 i, .int .i64 o, .slice A3 l.length c3] 24) = v3 at *
  refine (HI _ _ _ m0 SC0).out.mono ?_
  rintro e w4 ⟨rfl, B4⟩
  replace C0 := C0.on B4 C0.lt
  replace CX := CX.on B4 CX.lt
  replace SC0 := SC0.up B4
  replace SCX := SCX.up B4
  replace BE := BE.trans (B4.mono BE.size)
  obtain ⟨pC00, pC01, pC02⟩ := id C0
  obtain ⟨pCX0, pCX1, pCX2⟩ := id CX
  go_wp2
  go_ret
  exact ⟨rfl, BE⟩

theorem ok (a0 o0 : Int) (A0 : Option Addr) (c0 : Nat) (l0 : List Int) (a1 : Int) (w : World) (s0 : Sl w w.heap.size .i64 A0 l0) (m0 : l0.length ≤ c0) (hl : ¬ (100 : Int) < (l0.length : Int)) (l : List Int) (ho : (a1 == o0) = false) (hn : ((l.length : Int) == (l0.length : Int) - 1) = true) (HM : ∀ A c W, l0.length ≤ c → Sl W W.heap.size .i64 A l0 → Hid (Calls Try.prog 16 #[.agg #[.int .i64 a0, .int .i64 o0, .slice A l0.length c]] W (BoolPost W true))) (HL : ∀ A c W, l0.length ≤ c → Sl W W.heap.size .i64 A l0 → Hid (Calls Try.prog 11 #[.agg #[.int .i64 a0, .int .i64 o0, .slice A l0.length c], .int .i64 a1] W (ChPo W a0 o0 l 0))) (HI : ∀ A c W, l0.length ≤ c → Sl W W.heap.size .i64 A l0 → Hid (Calls Try.prog 18 #[.agg #[.int .i64 a0, .int .i64 o0, .slice A l0.length c], .int .i64 a1] W (BoolPost W true)))
    (HJ : ∀ A c W, l.length ≤ c → Sl W W.heap.size .i64 A l → Hid (Calls Try.prog 18 #[.agg #[.int .i64 a0, .int .i64 o0, .slice A l.length c], .int .i64 a1] W (BoolPost W false))) (HN : ∀ A c W, l.length ≤ c → Sl W W.heap.size .i64 A l → Hid (Calls Try.prog 16 #[.agg #[.int .i64 a0, .int .i64 o0, .slice A l.length c]] W (BoolPost W true))) : Calls Try.prog 7 #[.agg #[.int .i64 a0, .int .i64 o0, .slice A0 l0.length c0], .int .i64 a1] w (UpPost w) := by
  have BE := box_below w a0 o0 A0 l0.length c0
  have C0 := (cx_new w a0 o0 A0 l0.length c0).cb
  have SC0 := s0.up BE
  clear s0
  go_enter Try.func7, Try.ntmps7
  go_wp2_with fail
  generalize w.alloc (.cells #[.int .i64 a0, .int .i64 o0, .slice A0 l0.length c0] 24) = W0 at *
  refine (awake_any W0).out.mono ?_
  rintro e w1 ⟨rfl, B1⟩
  replace C0 := C0.on B1 C0.lt
  replace SC0 := SC0.up B1
  replace BE := BE.trans (B1.mono BE.size)
  obtain ⟨pC00, pC01, pC02⟩ := id C0
  go_wp2_with fail
  clear pC00 pC01 pC02
  refine (HM _ _ _ m0 SC0).out.mono ?_
  rintro e w2 ⟨rfl, B2⟩
  replace C0 := C0.on B2 C0.lt
  replace SC0 := SC0.up B2
  replace BE := BE.trans (B2.mono BE.size)
  obtain ⟨pC00, pC01, pC02⟩ := id C0
  go_wp2_with fail
  clear pC00 pC01 pC02
  refine (HL _ _ _ m0 SC0).out.mono ?_
  rintro e w3 ⟨A3, c3, rfl, hc3, hf3, B3⟩
  replace C0 := C0.on B3 C0.lt
  replace SC0 := SC0.up B3
  replace BE := BE.trans (B3.mono BE.size)
  have BB3 := box_below w3 a0 o0 A3 l.length c3
  replace C0 := C0.on BB3 C0.lt
  replace SC0 := SC0.up BB3
  replace BE := BE.trans (BB3.mono BE.size)
  have CX := (cx_new w3 a0 o0 A3 l.length c3).cb
  have SCX := hf3.sl.up BB3
  clear hf3
  obtain ⟨pC00, pC01, pC02⟩ := id C0
  obtain ⟨pCX0, pCX1, pCX2⟩ := id CX
  go_wp2_with fail
  clear pC00 pC01 pC02 pCX0 pCX1 pCX2
  generalize w3.alloc (.cells #[.int .i64 a0, .int .i64 o0, .slice A3 l.length c3] 24) = v3 at *
  refine (HI _ _ _ m0 SC0).out.mono ?_
  rintro e w4 ⟨rfl, B4⟩
  replace C0 := C0.on B4 C0.lt
  replace CX := CX.on B4 CX.lt
  replace SC0 := SC0.up B4
  replace SCX := SCX.up B4
  replace BE := BE.trans (B4.mono BE.size)
  obtain ⟨pC00, pC01, pC02⟩ := id C0
  obtain ⟨pCX0, pCX1, pCX2⟩ := id CX
  go_wp2_with fail
  clear pC00 pC01 pC02 pCX0 pCX1 pCX2
  refine (HJ _ _ _ hc3 SCX).out.mono ?_
  rintro e w5 ⟨rfl, B5⟩
  replace C0 := C0.on B5 C0.lt
  replace CX := CX.on B5 CX.lt
  replace SC0 := SC0.up B5
  replace SCX := SCX.up B5
  replace BE := BE.trans (B5.mono BE.size)
  obtain ⟨pC00, pC01, pC02⟩ := id C0
  obtain ⟨pCX0, pCX1, pCX2⟩ := id CX
  go_wp2_with fail
  clear pC00 pC01 pC02 pCX0 pCX1 pCX2
  refine (HN _ _ _ hc3 SCX).out.mono ?_
  rintro e w6 ⟨rfl, B6⟩
  replace C0 := C0.on B6 C0.lt
  replace CX := CX.on B6 CX.lt
  replace SC0 := SC0.up B6
  replace SCX := SCX.up B6
  replace BE := BE.trans (B6.mono BE.size)
  go_wp2
  go_ret
  exact ⟨rfl, BE⟩

theorem walk (a0 o0 : Int) (A0 : Option Addr) (c0 : Nat) (l0 : List Int) (a1 : Int) (w : World) (s0 : Sl w w.heap.size .i64 A0 l0) (m0 : l0.length ≤ c0) : Calls Try.prog 7 #[.agg #[.int .i64 a0, .int .i64 o0, .slice A0 l0.length c0], .int .i64 a1] w (UpPost w) := by
  by_cases hl : (100 : Int) < (l0.length : Int)
  · exact long a0 o0 A0 c0 l0 a1 w s0 m0 hl
  have HM : ∀ A c W, l0.length ≤ c → Sl W W.heap.size .i64 A l0 → Hid (Calls Try.prog 16 #[.agg #[.int .i64 a0, .int .i64 o0, .slice A l0.length c]] W (BoolPost W (mb a0 o0 l0))) := fun A c W hc h => may_any a0 o0 A c l0 W (by omega) h
  have HI : ∀ A c W, l0.length ≤ c → Sl W W.heap.size .i64 A l0 → Hid (Calls Try.prog 18 #[.agg #[.int .i64 a0, .int .i64 o0, .slice A l0.length c], .int .i64 a1] W (BoolPost W (mb a0 o0 l0 && decide (a1 ∈ l0)))) := fun A c W hc h => in_any a0 o0 A c l0 a1 W (by omega) h
  have HL : ∀ A c W, l0.length ≤ c → Sl W W.heap.size .i64 A l0 → Hid (Calls Try.prog 11 #[.agg #[.int .i64 a0, .int .i64 o0, .slice A l0.length c], .int .i64 a1] W (ChPost W (leaves ⟨a0, o0, l0⟩ a1))) := fun A c W hc h => leave_any a0 o0 A c l0 a1 W (by omega) hc h
  cases hm : mb a0 o0 l0
  · rw [hm] at HM
    exact no a0 o0 A0 c0 l0 a1 w s0 m0 hl HM
  · have hm' := mb_iff.1 hm
    rw [hm] at HM HI
    by_cases hn : a1 ∈ l0
    · rw [decide_eq_true hn] at HI
      by_cases ho : o0 = a1
      · have e : leaves ⟨a0, o0, l0⟩ a1 = (⟨0, 0, []⟩, 8) := by unfold leaves; rw [if_neg (fun q => q hm'), if_neg (fun q => q hn), if_pos ho]; rfl
        exact deny a0 o0 A0 c0 l0 a1 w s0 m0 hl 0 0 [] (by rw [beq_iff_eq]; exact ho.symm) HM (fun A c W hc h => cho' (HL A c W hc h).out e rfl) HI
      · have e : leaves ⟨a0, o0, l0⟩ a1 = (⟨a0, o0, del a1 l0⟩, 0) := by unfold leaves; rw [if_neg (fun q => q hm'), if_neg (fun q => q hn), if_neg ho]
        obtain ⟨-, -, -, -, f2⟩ := leaves_may e
        have f : (del a1 l0).length + 1 = l0.length := del_len hm'.2.2.2.1 hn
        have f3 : l0.length ≤ 16 := hm'.2.1.2
        refine ok a0 o0 A0 c0 l0 a1 w s0 m0 hl (del a1 l0) (by rw [beq_eq_false_iff_ne]; exact fun q => ho q.symm) (by rw [beq_iff_eq]; omega) HM (fun A c W hc h => cho' (HL A c W hc h).out e rfl) HI (fun A c W hc h => ?_) (fun A c W hc h => ?_)
        · have := in_any a0 o0 A c (del a1 l0) a1 W (by omega) h
          rw [show decide (a1 ∈ del a1 l0) = false from decide_eq_false (fun q => (del_mem.1 q).1 rfl), Bool.and_false] at this
          exact this
        · have := may_any a0 o0 A c (del a1 l0) W (by omega) h
          rw [mb_iff.2 f2] at this
          exact this
    · rw [decide_eq_false hn] at HI
      have e : leaves ⟨a0, o0, l0⟩ a1 = (⟨0, 0, []⟩, 5) := by unfold leaves; rw [if_neg (fun q => q hm'), if_pos hn]; rfl
      exact none_ a0 o0 A0 c0 l0 a1 w s0 m0 hl 0 0 [] HM (fun A c W hc h => cho' (HL A c W hc h).out e rfl) HI

theorem own : ownKnob Try.prog.godebug = none := by kernel_rfl
theorem laidOut : laidOutB Try.prog = true := by kernel_rfl

set_option maxRecDepth 100000 in
theorem lifted (os : Os) (started : os.Started) (H : Type) (enc : TypeId × Value → H) :
    ReturnsInHanded {} Try.checked os 7 .any (Rows.peopleLeaveSpec.pre6 enc Try.prog Try.f7 Rows.peopleLeaveRow.domain false) (Rows.peopleLeaveSpec.post enc Try.prog Try.f7 false true false false) := by
  refine returnsInHanded_of_change (C := Try.checked) own started (by kernel_rfl) Try.func7
    (ChangeSpec.witness6 (enc := enc) (C := Try.checked) false ⟨#[], #[.agg #[.int .i64 0, .int .i64 0, .slice none 0 0], .int .i64 0], []⟩ 8 (by kernel_rfl) (by kernel_rfl) (by kernel_rfl) (by kernel_rfl)) ?_
  intro W base args ds gs before hval0 hW hcnd _
  have hval : ∀ (j : Nat) t v, Try.f7.params[j]? = some t → args[j]? = some v → Value.okWide Try.prog W .any base t v := hval0
  have hW' := hW
  obtain ⟨p, q, hA, hV, rfl, hfz, hnd⟩ := hW
  have hA : DataW.TrodAll enc Try.prog W 0 (fun _ => true) true Try.f7.params.toList args.toList ds p := hA
  rw [Try.params7] at hA hval
  obtain ⟨v0, vs0, d0, ds0, p0, q0, hargs, rfl, rfl, h0, r0⟩ := trodAll_cons hA
  obtain ⟨v1, vs1, d1, ds1, p1, q1, rfl, rfl, rfl, h1, r1⟩ := trodAll_cons r0
  obtain ⟨rfl, rfl, rfl⟩ := trodAll_nil r1
  obtain rfl : args = #[v0, v1] := by cases args; simp_all
  obtain ⟨rfl, rfl⟩ := trodVars_none hV
  have k0 := h0
  have lt0 : ∀ x ∈ p0, x.block < W.heap.size := by obtain ⟨m, hm⟩ := k0; exact DataW.trod_lt m _ _ _ hm
  obtain ⟨a0, o0, A0, c0, l0, rfl, s0, m0⟩ := open_ch (hval 0 24 v0 rfl rfl) h0
  obtain ⟨a1, rfl, rfl, rfl, w1⟩ := open_int Try.underlying3 (hval 1 3 v1 rfl rfl) h1
  clear hval0
  refine (walk a0 o0 A0 c0 l0 a1 W s0 m0 ).mono fun e W' ⟨he, bel⟩ => ?_
  subst he
  exact ⟨_, rfl, _, _, _, [], _, [], hW', trodAll_mk1 (shut_bool Try.underlying4 _), (trodAll_cons_mk (Below.trod laidOut (by kernel_rfl) (of_decide_eq_true (by kernel_rfl)) k0 bel lt0) (trodAll_cons_mk (shut_int Try.underlying3 w1) trodAll_mk0)), rfl, bel.frame _, fun h => by cases h⟩

theorem over : Rows.peopleLeaveRow.holds Try.pinned (OpenSpec.ofChange Rows.peopleLeaveSpec) :=
  OpenClaim.holds_of_wide 7 Try.f7 rfl rfl rfl rfl rfl rfl rfl ⟨rfl, rfl, rfl, rfl, rfl⟩ rfl rfl rfl rfl rfl (by kernel_rfl) Try.func7 (by kernel_rfl)
    (of_decide_eq_true (by kernel_rfl)) (by unfold Func.isWrapper; first | (rw [if_pos (by decide +kernel)]; kernel_rfl) | (rw [if_neg (by decide +kernel)]; exact ⟨rfl, rfl⟩))
    (fun os started H enc _ => lifted os started H enc)

theorem proved : Rows.PeopleLeaveSaid := over
#print axioms proved
end Go.Proofs.Ytpelopfbdfnmeaa.peopleLeave
