/-
  Whether any channel may be, who is in it, and what it is with any user more, or less, or newly opened, is what the document says: PeopleChange answers true whatever the channel, the user and the number; they read as they did. Conditions: none.
-/
import Derived.Test.YtpelopfbdfnmeaaOpen
import Derived.Test.YtpelopfbdfnmeaaLe
import Derived.Test.YtpelopfbdfnmeaaOp
import Derived.Test.YtpelopfbdfnmeaaRl
import Derived.Test.YtpelopfbdfnmeaaSm
import Derived.Test.YtpelopfbdfnmeaaAwk
import Derived.Deep.RegionLaw
namespace Go.Proofs.Ytpelopfbdfnmeaa.peopleChange
open Go.ChangeShapes Go.WideShapes Go.ChangeAt Go.RowKit
set_option linter.unusedVariables false
set_option linter.unusedSimpArgs false

theorem long (a0 o0 : Int) (A0 : Option Addr) (c0 : Nat) (l0 : List Int) (a1 a2 : Int) (w : World) (s0 : Sl w w.heap.size .i64 A0 l0) (m0 : l0.length ≤ c0) (hl : (100 : Int) < (l0.length : Int)) : Calls Try.prog 3 #[.agg #[.int .i64 a0, .int .i64 o0, .slice A0 l0.length c0], .int .i64 a1, .int .i64 a2] w (UpPost w) := by
  have BE := box_below w a0 o0 A0 l0.length c0
  have C0 := (cx_new w a0 o0 A0 l0.length c0).cb
  have SC0 := s0.up BE
  clear s0
  go_enter Try.func3, Try.ntmps3
  go_wp2_with fail
  generalize w.alloc (.cells #[.int .i64 a0, .int .i64 o0, .slice A0 l0.length c0] 24) = W0 at *
  refine (awake_any W0).out.mono ?_
  rintro e w1 ⟨rfl, B1⟩
  replace C0 := C0.on B1 C0.lt
  replace SC0 := SC0.up B1
  replace BE := BE.trans (B1.mono BE.size)
  obtain ⟨pC00, pC01, pC02⟩ := id C0
  go_wp2
  go_ret
  exact ⟨rfl, BE⟩

set_option maxHeartbeats 4000000 in
theorem rest (a0 o0 : Int) (A0 : Option Addr) (c0 : Nat) (l0 : List Int) (a1 a2 : Int) (w : World) (s0 : Sl w w.heap.size .i64 A0 l0) (m0 : l0.length ≤ c0) (hl : ¬ (100 : Int) < (l0.length : Int)) (i1 o1 e1 i2 o2 e2 i3 o3 e3 : Int) (l1 l2 l3 : List Int) (m q : Bool)
    (HJ : ∀ A c W, l0.length ≤ c → Sl W W.heap.size .i64 A l0 → Hid (Calls Try.prog 9 #[.agg #[.int .i64 a0, .int .i64 o0, .slice A l0.length c], .int .i64 a1] W (ChPo W i1 o1 l1 e1)))
    (HJr : ∀ A c W, l0.length ≤ c → Sl W W.heap.size .i64 A l0 → Hid (Calls Try.prog 10 #[.agg #[.int .i64 a0, .int .i64 o0, .slice A l0.length c], .int .i64 a1] W (ChPo W i1 o1 l1 e1)))
    (HL : ∀ A c W, l0.length ≤ c → Sl W W.heap.size .i64 A l0 → Hid (Calls Try.prog 11 #[.agg #[.int .i64 a0, .int .i64 o0, .slice A l0.length c], .int .i64 a1] W (ChPo W i2 o2 l2 e2)))
    (HLr : ∀ A c W, l0.length ≤ c → Sl W W.heap.size .i64 A l0 → Hid (Calls Try.prog 12 #[.agg #[.int .i64 a0, .int .i64 o0, .slice A l0.length c], .int .i64 a1] W (ChPo W i2 o2 l2 e2)))
    (HO : ∀ W, Hid (Calls Try.prog 13 #[.int .i64 a2, .int .i64 a1] W (ChPo W i3 o3 l3 e3)))
    (HOr : ∀ W, Hid (Calls Try.prog 14 #[.int .i64 a2, .int .i64 a1] W (ChPo W i3 o3 l3 e3)))
    (HM : ∀ A c W, l0.length ≤ c → Sl W W.heap.size .i64 A l0 → Hid (Calls Try.prog 16 #[.agg #[.int .i64 a0, .int .i64 o0, .slice A l0.length c]] W (BoolPost W m)))
    (HMr : ∀ A c W, l0.length ≤ c → Sl W W.heap.size .i64 A l0 → Hid (Calls Try.prog 17 #[.agg #[.int .i64 a0, .int .i64 o0, .slice A l0.length c]] W (BoolPost W m)))
    (HI : ∀ A c W, l0.length ≤ c → Sl W W.heap.size .i64 A l0 → Hid (Calls Try.prog 18 #[.agg #[.int .i64 a0, .int .i64 o0, .slice A l0.length c], .int .i64 a1] W (BoolPost W q)))
    (HIr : ∀ A c W, l0.length ≤ c → Sl W W.heap.size .i64 A l0 → Hid (Calls Try.prog 19 #[.agg #[.int .i64 a0, .int .i64 o0, .slice A l0.length c], .int .i64 a1] W (BoolPost W q)))
    (HS1 : ∀ A A2 c c2 W, Sl W W.heap.size .i64 A l1 → Sl W W.heap.size .i64 A2 l1 → Hid (Calls Try.prog 15 #[.agg #[.int .i64 i1, .int .i64 o1, .slice A l1.length c], .agg #[.int .i64 i1, .int .i64 o1, .slice A2 l1.length c2]] W (BoolPost W true)))
    (HS2 : ∀ A A2 c c2 W, Sl W W.heap.size .i64 A l2 → Sl W W.heap.size .i64 A2 l2 → Hid (Calls Try.prog 15 #[.agg #[.int .i64 i2, .int .i64 o2, .slice A l2.length c], .agg #[.int .i64 i2, .int .i64 o2, .slice A2 l2.length c2]] W (BoolPost W true)))
    (HS3 : ∀ A A2 c c2 W, Sl W W.heap.size .i64 A l3 → Sl W W.heap.size .i64 A2 l3 → Hid (Calls Try.prog 15 #[.agg #[.int .i64 i3, .int .i64 o3, .slice A l3.length c], .agg #[.int .i64 i3, .int .i64 o3, .slice A2 l3.length c2]] W (BoolPost W true))) : Calls Try.prog 3 #[.agg #[.int .i64 a0, .int .i64 o0, .slice A0 l0.length c0], .int .i64 a1, .int .i64 a2] w (UpPost w) := by
  have BE := box_below w a0 o0 A0 l0.length c0
  have C0 := (cx_new w a0 o0 A0 l0.length c0).cb
  have SC0 := s0.up BE
  clear s0
  go_enter Try.func3, Try.ntmps3
  go_wp2_with fail
  generalize w.alloc (.cells #[.int .i64 a0, .int .i64 o0, .slice A0 l0.length c0] 24) = W0 at *
  refine (awake_any W0).out.mono ?_
  rintro e w1 ⟨rfl, B1⟩
  replace C0 := C0.on B1 C0.lt
  replace SC0 := SC0.up B1
  replace BE := BE.trans (B1.mono BE.size)
  obtain ⟨pC00, pC01, pC02⟩ := id C0
  go_wp2_with fail
  clear pC00 pC01 pC02
  refine (HJ _ _ _ m0 SC0).out.mono ?_
  rintro e w2 ⟨A2, c2, rfl, hc2, hf2, B2⟩
  replace C0 := C0.on B2 C0.lt
  replace SC0 := SC0.up B2
  replace BE := BE.trans (B2.mono BE.size)
  have BB2 := box_below w2 i1 o1 A2 l1.length c2
  replace C0 := C0.on BB2 C0.lt
  replace SC0 := SC0.up BB2
  replace BE := BE.trans (BB2.mono BE.size)
  have X1 := (cx_new w2 i1 o1 A2 l1.length c2).cb
  have SX1 := hf2.sl.up BB2
  clear HJ
  clear hf2
  obtain ⟨pC00, pC01, pC02⟩ := id C0
  go_wp2_with fail
  clear pC00 pC01 pC02
  generalize w2.alloc (.cells #[.int .i64 i1, .int .i64 o1, .slice A2 l1.length c2] 24) = v2 at *
  refine (HJr _ _ _ m0 SC0).out.mono ?_
  rintro e w3 ⟨A3, c3, rfl, hc3, hf3, B3⟩
  replace C0 := C0.on B3 C0.lt
  replace X1 := X1.on B3 X1.lt
  replace SC0 := SC0.up B3
  replace SX1 := SX1.up B3
  replace BE := BE.trans (B3.mono BE.size)
  have BB3 := box_below w3 i1 o1 A3 l1.length c3
  replace C0 := C0.on BB3 C0.lt
  replace X1 := X1.on BB3 X1.lt
  replace SC0 := SC0.up BB3
  replace SX1 := SX1.up BB3
  replace BE := BE.trans (BB3.mono BE.size)
  have Y1 := (cx_new w3 i1 o1 A3 l1.length c3).cb
  have SY1 := hf3.sl.up BB3
  clear HJr
  clear hf3
  obtain ⟨pC00, pC01, pC02⟩ := id C0
  go_wp2_with fail
  clear pC00 pC01 pC02
  generalize w3.alloc (.cells #[.int .i64 i1, .int .i64 o1, .slice A3 l1.length c3] 24) = v3 at *
  refine (HL _ _ _ m0 SC0).out.mono ?_
  rintro e w4 ⟨A4, c4, rfl, hc4, hf4, B4⟩
  replace C0 := C0.on B4 C0.lt
  replace X1 := X1.on B4 X1.lt
  replace Y1 := Y1.on B4 Y1.lt
  replace SC0 := SC0.up B4
  replace SX1 := SX1.up B4
  replace SY1 := SY1.up B4
  replace BE := BE.trans (B4.mono BE.size)
  have BB4 := box_below w4 i2 o2 A4 l2.length c4
  replace C0 := C0.on BB4 C0.lt
  replace X1 := X1.on BB4 X1.lt
  replace Y1 := Y1.on BB4 Y1.lt
  replace SC0 := SC0.up BB4
  replace SX1 := SX1.up BB4
  replace SY1 := SY1.up BB4
  replace BE := BE.trans (BB4.mono BE.size)
  have X2 := (cx_new w4 i2 o2 A4 l2.length c4).cb
  have SX2 := hf4.sl.up BB4
  clear HL
  clear hf4
  obtain ⟨pC00, pC01, pC02⟩ := id C0
  go_wp2_with fail
  clear pC00 pC01 pC02
  generalize w4.alloc (.cells #[.int .i64 i2, .int .i64 o2, .slice A4 l2.length c4] 24) = v4 at *
  refine (HLr _ _ _ m0 SC0).out.mono ?_
  rintro e w5 ⟨A5, c5, rfl, hc5, hf5, B5⟩
  replace C0 := C0.on B5 C0.lt
  replace X1 := X1.on B5 X1.lt
  replace Y1 := Y1.on B5 Y1.lt
  replace X2 := X2.on B5 X2.lt
  replace SC0 := SC0.up B5
  replace SX1 := SX1.up B5
  replace SY1 := SY1.up B5
  replace SX2 := SX2.up B5
  replace BE := BE.trans (B5.mono BE.size)
  have BB5 := box_below w5 i2 o2 A5 l2.length c5
  replace C0 := C0.on BB5 C0.lt
  replace X1 := X1.on BB5 X1.lt
  replace Y1 := Y1.on BB5 Y1.lt
  replace X2 := X2.on BB5 X2.lt
  replace SC0 := SC0.up BB5
  replace SX1 := SX1.up BB5
  replace SY1 := SY1.up BB5
  replace SX2 := SX2.up BB5
  replace BE := BE.trans (BB5.mono BE.size)
  have Y2 := (cx_new w5 i2 o2 A5 l2.length c5).cb
  have SY2 := hf5.sl.up BB5
  clear HLr
  clear hf5
  go_wp2_with fail
  generalize w5.alloc (.cells #[.int .i64 i2, .int .i64 o2, .slice A5 l2.length c5] 24) = v5 at *
  refine (HO _).out.mono ?_
  rintro e w6 ⟨A6, c6, rfl, hc6, hf6, B6⟩
  replace C0 := C0.on B6 C0.lt
  replace X1 := X1.on B6 X1.lt
  replace Y1 := Y1.on B6 Y1.lt
  replace X2 := X2.on B6 X2.lt
  replace Y2 := Y2.on B6 Y2.lt
  replace SC0 := SC0.up B6
  replace SX1 := SX1.up B6
  replace SY1 := SY1.up B6
  replace SX2 := SX2.up B6
  replace SY2 := SY2.up B6
  replace BE := BE.trans (B6.mono BE.size)
  have BB6 := box_below w6 i3 o3 A6 l3.length c6
  replace C0 := C0.on BB6 C0.lt
  replace X1 := X1.on BB6 X1.lt
  replace Y1 := Y1.on BB6 Y1.lt
  replace X2 := X2.on BB6 X2.lt
  replace Y2 := Y2.on BB6 Y2.lt
  replace SC0 := SC0.up BB6
  replace SX1 := SX1.up BB6
  replace SY1 := SY1.up BB6
  replace SX2 := SX2.up BB6
  replace SY2 := SY2.up BB6
  replace BE := BE.trans (BB6.mono BE.size)
  have X3 := (cx_new w6 i3 o3 A6 l3.length c6).cb
  have SX3 := hf6.sl.up BB6
  clear HO
  clear hf6
  go_wp2_with fail
  generalize w6.alloc (.cells #[.int .i64 i3, .int .i64 o3, .slice A6 l3.length c6] 24) = v6 at *
  refine (HOr _).out.mono ?_
  rintro e w7 ⟨A7, c7, rfl, hc7, hf7, B7⟩
  replace C0 := C0.on B7 C0.lt
  replace X1 := X1.on B7 X1.lt
  replace Y1 := Y1.on B7 Y1.lt
  replace X2 := X2.on B7 X2.lt
  replace Y2 := Y2.on B7 Y2.lt
  replace X3 := X3.on B7 X3.lt
  replace SC0 := SC0.up B7
  replace SX1 := SX1.up B7
  replace SY1 := SY1.up B7
  replace SX2 := SX2.up B7
  replace SY2 := SY2.up B7
  replace SX3 := SX3.up B7
  replace BE := BE.trans (B7.mono BE.size)
  have BB7 := box_below w7 i3 o3 A7 l3.length c7
  replace C0 := C0.on BB7 C0.lt
  replace X1 := X1.on BB7 X1.lt
  replace Y1 := Y1.on BB7 Y1.lt
  replace X2 := X2.on BB7 X2.lt
  replace Y2 := Y2.on BB7 Y2.lt
  replace X3 := X3.on BB7 X3.lt
  replace SC0 := SC0.up BB7
  replace SX1 := SX1.up BB7
  replace SY1 := SY1.up BB7
  replace SX2 := SX2.up BB7
  replace SY2 := SY2.up BB7
  replace SX3 := SX3.up BB7
  replace BE := BE.trans (BB7.mono BE.size)
  have Y3 := (cx_new w7 i3 o3 A7 l3.length c7).cb
  have SY3 := hf7.sl.up BB7
  clear HOr
  clear hf7
  obtain ⟨pX10, pX11, pX12⟩ := id X1
  obtain ⟨pY10, pY11, pY12⟩ := id Y1
  go_wp2_with fail
  clear pX10 pX11 pX12 pY10 pY11 pY12
  generalize w7.alloc (.cells #[.int .i64 i3, .int .i64 o3, .slice A7 l3.length c7] 24) = v7 at *
  refine (HS1 _ _ _ _ _ SX1 SY1).out.mono ?_
  rintro e w8 ⟨rfl, B8⟩
  replace C0 := C0.on B8 C0.lt
  replace X1 := X1.on B8 X1.lt
  replace Y1 := Y1.on B8 Y1.lt
  replace X2 := X2.on B8 X2.lt
  replace Y2 := Y2.on B8 Y2.lt
  replace X3 := X3.on B8 X3.lt
  replace Y3 := Y3.on B8 Y3.lt
  replace SC0 := SC0.up B8
  replace SX1 := SX1.up B8
  replace SY1 := SY1.up B8
  replace SX2 := SX2.up B8
  replace SY2 := SY2.up B8
  replace SX3 := SX3.up B8
  replace SY3 := SY3.up B8
  replace BE := BE.trans (B8.mono BE.size)
  clear HS1
  clear X1 Y1 SX1 SY1
  obtain ⟨pX20, pX21, pX22⟩ := id X2
  obtain ⟨pY20, pY21, pY22⟩ := id Y2
  go_wp2_with fail
  clear pX20 pX21 pX22 pY20 pY21 pY22
  refine (HS2 _ _ _ _ _ SX2 SY2).out.mono ?_
  rintro e w9 ⟨rfl, B9⟩
  replace C0 := C0.on B9 C0.lt
  replace X2 := X2.on B9 X2.lt
  replace Y2 := Y2.on B9 Y2.lt
  replace X3 := X3.on B9 X3.lt
  replace Y3 := Y3.on B9 Y3.lt
  replace SC0 := SC0.up B9
  replace SX2 := SX2.up B9
  replace SY2 := SY2.up B9
  replace SX3 := SX3.up B9
  replace SY3 := SY3.up B9
  replace BE := BE.trans (B9.mono BE.size)
  clear HS2
  clear X2 Y2 SX2 SY2
  obtain ⟨pX30, pX31, pX32⟩ := id X3
  obtain ⟨pY30, pY31, pY32⟩ := id Y3
  go_wp2_with fail
  clear pX30 pX31 pX32 pY30 pY31 pY32
  refine (HS3 _ _ _ _ _ SX3 SY3).out.mono ?_
  rintro e w10 ⟨rfl, B10⟩
  replace C0 := C0.on B10 C0.lt
  replace X3 := X3.on B10 X3.lt
  replace Y3 := Y3.on B10 Y3.lt
  replace SC0 := SC0.up B10
  replace SX3 := SX3.up B10
  replace SY3 := SY3.up B10
  replace BE := BE.trans (B10.mono BE.size)
  clear HS3
  clear X3 Y3 SX3 SY3
  have GHM : ∀ V, Below w10.heap.size w10 V → Hid (Calls Try.prog 16 #[.agg #[.int .i64 a0, .int .i64 o0, .slice A0 l0.length c0]] V (BoolPost V m)) := fun V hV => HM _ _ V m0 (SC0.up hV)
  have GHMr : ∀ V, Below w10.heap.size w10 V → Hid (Calls Try.prog 17 #[.agg #[.int .i64 a0, .int .i64 o0, .slice A0 l0.length c0]] V (BoolPost V m)) := fun V hV => HMr _ _ V m0 (SC0.up hV)
  have GHI : ∀ V, Below w10.heap.size w10 V → Hid (Calls Try.prog 18 #[.agg #[.int .i64 a0, .int .i64 o0, .slice A0 l0.length c0], .int .i64 a1] V (BoolPost V q)) := fun V hV => HI _ _ V m0 (SC0.up hV)
  have GHIr : ∀ V, Below w10.heap.size w10 V → Hid (Calls Try.prog 19 #[.agg #[.int .i64 a0, .int .i64 o0, .slice A0 l0.length c0], .int .i64 a1] V (BoolPost V q)) := fun V hV => HIr _ _ V m0 (SC0.up hV)
  have SB : Hid (∀ v, Below w10.heap.size w10 v → Cb v (w.heap.size) a0 o0 A0 l0.length c0) := Lib.hid (fun v g => C0.on g C0.lt)
  have BD : Hid (Below w10.heap.size w10 w10.drew) := (Below.refl _ _).drew
  clear HM HMr HI HIr C0 SC0
  go_wp2_with fail
  refine wp_region_held_drew (S := fun v => Below w10.heap.size w10 v) (by kernel_rfl) BD.out (fun hH => ?_)
  refine wpAnyH_take (i := 0) (v := ?v1) rfl (by kernel_rfl) (by kernel_rfl) (by kernel_rfl) (fun _ _ _ h => h) (Or.inl ⟨by rfl, ?hy1⟩) hH ?rest1
  case hy1 => (intro w hSw; (try dsimp only at hSw); go_simp; try with_reducible rfl)
  try simp only [Act.put, List.setIfInBounds_toArray, List.set_cons_zero, List.set_cons_succ, List.getElem_toArray, List.getElem_cons_zero]
  refine wpAnyH_take (i := 1) (v := ?v2) rfl (by kernel_rfl) (by kernel_rfl) (by kernel_rfl) (fun _ _ _ h => h) (Or.inl ⟨by rfl, ?hy2⟩) hH ?rest2
  case hy2 => (intro w hSw; (try dsimp only at hSw); go_simp; try with_reducible rfl)
  try simp only [Act.put, List.setIfInBounds_toArray, List.set_cons_zero, List.set_cons_succ, List.getElem_toArray, List.getElem_cons_zero, List.getElem_cons_succ]
  refine wpAnyH_take (i := 2) (v := ?v3) rfl (by kernel_rfl) (by kernel_rfl) (by kernel_rfl) (fun _ _ _ h => h) (Or.inl ⟨by rfl, ?hy3⟩) hH ?rest3
  case hy3 => (intro w hSw; (try dsimp only at hSw); go_simp; try with_reducible rfl)
  try simp only [Act.put, List.setIfInBounds_toArray, List.set_cons_zero, List.set_cons_succ, List.getElem_toArray, List.getElem_cons_zero, List.getElem_cons_succ]
  refine wpAnyH_take (i := 3) (v := ?v4) rfl (by kernel_rfl) (by kernel_rfl) (by kernel_rfl) (fun _ _ _ h => h) (Or.inl ⟨by rfl, ?hy4⟩) hH ?rest4
  case hy4 => (intro w hSw; (try dsimp only at hSw); go_simp; try with_reducible rfl)
  try simp only [Act.put, List.setIfInBounds_toArray, List.set_cons_zero, List.set_cons_succ, List.getElem_toArray, List.getElem_cons_zero, List.getElem_cons_succ]
  refine wpAnyH_take (i := 4) (v := ?v5) rfl (by kernel_rfl) (by kernel_rfl) (by kernel_rfl) (fun _ _ _ h => h) (Or.inl ⟨by rfl, ?hy5⟩) hH ?rest5
  case hy5 => (intro w hSw; (try dsimp only at hSw); go_simp; try with_reducible rfl)
  try simp only [Act.put, List.setIfInBounds_toArray, List.set_cons_zero, List.set_cons_succ, List.getElem_toArray, List.getElem_cons_zero, List.getElem_cons_succ]
  refine wpAnyH_take (i := 5) (v := ?v6) rfl (by kernel_rfl) (by kernel_rfl) (by kernel_rfl) (fun _ _ _ h => h) (Or.inl ⟨by rfl, ?hy6⟩) hH ?rest6
  case hy6 => (intro w hSw; (try dsimp only at hSw); go_simp; try with_reducible rfl)
  try simp only [Act.put, List.setIfInBounds_toArray, List.set_cons_zero, List.set_cons_succ, List.getElem_toArray, List.getElem_cons_zero, List.getElem_cons_succ]
  refine wpAnyH_take (i := 6) (v := ?v7) rfl (by kernel_rfl) (by kernel_rfl) (by kernel_rfl) (fun _ _ _ h => h) (Or.inl ⟨by rfl, ?hy7⟩) hH ?rest7
  case hy7 => (intro w hSw; (try dsimp only at hSw); go_simp; try with_reducible rfl)
  try simp only [Act.put, List.setIfInBounds_toArray, List.set_cons_zero, List.set_cons_succ, List.getElem_toArray, List.getElem_cons_zero, List.getElem_cons_succ]
  refine wpAnyH_take (i := 7) (v := ?v8) rfl (by kernel_rfl) (by kernel_rfl) (by kernel_rfl) (fun _ _ _ h => h) (Or.inl ⟨by rfl, ?hy8⟩) hH ?rest8
  case hy8 => (intro w hSw; (try dsimp only at hSw); go_simp; try with_reducible rfl)
  try simp only [Act.put, List.setIfInBounds_toArray, List.set_cons_zero, List.set_cons_succ, List.getElem_toArray, List.getElem_cons_zero, List.getElem_cons_succ]
  refine wpAnyH_take (i := 8) (v := ?v9) rfl (by kernel_rfl) (by kernel_rfl) (by kernel_rfl) (fun _ _ _ h => h) (Or.inl ⟨by rfl, ?hy9⟩) hH ?rest9
  case hy9 => (intro w hSw; (try dsimp only at hSw); go_simp; try with_reducible rfl)
  try simp only [Act.put, List.setIfInBounds_toArray, List.set_cons_zero, List.set_cons_succ, List.getElem_toArray, List.getElem_cons_zero, List.getElem_cons_succ]
  refine wpAnyH_take (i := 9) (v := ?v10) rfl (by kernel_rfl) (by kernel_rfl) (by kernel_rfl) (fun _ _ _ h => h) (Or.inl ⟨by rfl, ?hy10⟩) hH ?rest10
  case hy10 => (intro w hSw; (try dsimp only at hSw); go_simp; try with_reducible rfl)
  try simp only [Act.put, List.setIfInBounds_toArray, List.set_cons_zero, List.set_cons_succ, List.getElem_toArray, List.getElem_cons_zero, List.getElem_cons_succ]
  refine wpAnyH_take (i := 10) (v := ?v11) rfl (by kernel_rfl) (by kernel_rfl) (by kernel_rfl) (fun _ _ _ h => h) (Or.inl ⟨by rfl, ?hy11⟩) hH ?rest11
  case hy11 => (intro w hSw; (try dsimp only at hSw); go_simp; try with_reducible rfl)
  try simp only [Act.put, List.setIfInBounds_toArray, List.set_cons_zero, List.set_cons_succ, List.getElem_toArray, List.getElem_cons_zero, List.getElem_cons_succ]
  refine wpAnyH_take (i := 11) (v := ?v12) rfl (by kernel_rfl) (by kernel_rfl) (by kernel_rfl) (fun _ _ _ h => h) (Or.inl ⟨by rfl, ?hy12⟩) hH ?rest12
  case hy12 => (intro w hSw; (try dsimp only at hSw); go_simp; try with_reducible rfl)
  try simp only [Act.put, List.setIfInBounds_toArray, List.set_cons_zero, List.set_cons_succ, List.getElem_toArray, List.getElem_cons_zero, List.getElem_cons_succ]
  refine wpAnyH_take (i := 12) (v := ?v13) rfl (by kernel_rfl) (by kernel_rfl) (by kernel_rfl) (fun _ _ _ h => h) (Or.inl ⟨by rfl, ?hy13⟩) hH ?rest13
  case hy13 => (intro w hSw; (try dsimp only at hSw); go_simp; try with_reducible rfl)
  try simp only [Act.put, List.setIfInBounds_toArray, List.set_cons_zero, List.set_cons_succ, List.getElem_toArray, List.getElem_cons_zero, List.getElem_cons_succ]
  refine wpAnyH_take (i := 13) (v := ?v14) rfl (by kernel_rfl) (by kernel_rfl) (by kernel_rfl) (fun _ _ _ h => h) (Or.inl ⟨by rfl, ?hy14⟩) hH ?rest14
  case hy14 => (intro w hSw; (try dsimp only at hSw); go_simp; try with_reducible rfl)
  try simp only [Act.put, List.setIfInBounds_toArray, List.set_cons_zero, List.set_cons_succ, List.getElem_toArray, List.getElem_cons_zero, List.getElem_cons_succ]
  refine wpAnyH_take (i := 14) (v := ?v15) rfl (by kernel_rfl) (by kernel_rfl) (by kernel_rfl) (fun _ _ _ h => h) (Or.inl ⟨by rfl, ?hy15⟩) hH ?rest15
  case hy15 => (intro w hSw; (try dsimp only at hSw); go_simp; try with_reducible rfl)
  try simp only [Act.put, List.setIfInBounds_toArray, List.set_cons_zero, List.set_cons_succ, List.getElem_toArray, List.getElem_cons_zero, List.getElem_cons_succ]
  refine wpAnyH_take (i := 15) (v := ?v16) rfl (by kernel_rfl) (by kernel_rfl) (by kernel_rfl) (fun _ _ _ h => h) (Or.inl ⟨by rfl, ?hy16⟩) hH ?rest16
  case hy16 => (intro w hSw; (try dsimp only at hSw); go_simp; try with_reducible rfl)
  try simp only [Act.put, List.setIfInBounds_toArray, List.set_cons_zero, List.set_cons_succ, List.getElem_toArray, List.getElem_cons_zero, List.getElem_cons_succ]
  refine wpAnyH_take (i := 16) (v := ?v17) rfl (by kernel_rfl) (by kernel_rfl) (by kernel_rfl) (fun _ _ _ h => h) (Or.inl ⟨by rfl, ?hy17⟩) hH ?rest17
  case hy17 => (intro w hSw; (try dsimp only at hSw); go_simp; try with_reducible rfl)
  try simp only [Act.put, List.setIfInBounds_toArray, List.set_cons_zero, List.set_cons_succ, List.getElem_toArray, List.getElem_cons_zero, List.getElem_cons_succ]
  refine wpAnyH_take (i := 17) (v := ?v18) rfl (by kernel_rfl) (by kernel_rfl) (by kernel_rfl) (fun _ _ _ h => h) (Or.inl ⟨by rfl, ?hy18⟩) hH ?rest18
  case hy18 => (intro w hSw; (try dsimp only at hSw); go_simp; try with_reducible rfl)
  try simp only [Act.put, List.setIfInBounds_toArray, List.set_cons_zero, List.set_cons_succ, List.getElem_toArray, List.getElem_cons_zero, List.getElem_cons_succ]
  refine wpAnyH_take (i := 18) (v := ?v19) rfl (by kernel_rfl) (by kernel_rfl) (by kernel_rfl) (fun _ _ _ h => h) (Or.inl ⟨by rfl, ?hy19⟩) hH ?rest19
  case hy19 => (intro w hSw; (try dsimp only at hSw); go_simp; try with_reducible rfl)
  try simp only [Act.put, List.setIfInBounds_toArray, List.set_cons_zero, List.set_cons_succ, List.getElem_toArray, List.getElem_cons_zero, List.getElem_cons_succ]
  refine wpAnyH_take (i := 19) (v := ?v20) rfl (by kernel_rfl) (by kernel_rfl) (by kernel_rfl) (fun _ _ _ h => h) (Or.inl ⟨by rfl, ?hy20⟩) hH ?rest20
  case hy20 => (intro w hSw; (try dsimp only at hSw); go_simp; try with_reducible rfl)
  try simp only [Act.put, List.setIfInBounds_toArray, List.set_cons_zero, List.set_cons_succ, List.getElem_toArray, List.getElem_cons_zero, List.getElem_cons_succ]
  refine wpAnyH_take (i := 20) (v := ?v21) rfl (by kernel_rfl) (by kernel_rfl) (by kernel_rfl) (fun _ _ _ h => h) (Or.inl ⟨by rfl, ?hy21⟩) hH ?rest21
  case hy21 => (intro w hSw; (try dsimp only at hSw); go_simp; try with_reducible rfl)
  try simp only [Act.put, List.setIfInBounds_toArray, List.set_cons_zero, List.set_cons_succ, List.getElem_toArray, List.getElem_cons_zero, List.getElem_cons_succ]
  refine wpAnyH_take (i := 21) (v := ?v22) rfl (by kernel_rfl) (by kernel_rfl) (by kernel_rfl) (fun _ _ _ h => h) (Or.inl ⟨by rfl, ?hy22⟩) hH ?rest22
  case hy22 => (intro w hSw; (try dsimp only at hSw); go_simp; try with_reducible rfl)
  try simp only [Act.put, List.setIfInBounds_toArray, List.set_cons_zero, List.set_cons_succ, List.getElem_toArray, List.getElem_cons_zero, List.getElem_cons_succ]
  refine wpAnyH_take (i := 22) (v := ?v23) rfl (by kernel_rfl) (by kernel_rfl) (by kernel_rfl) (fun _ _ _ h => h) (Or.inl ⟨by rfl, ?hy23⟩) hH ?rest23
  case hy23 => (intro w hSw; (try dsimp only at hSw); go_simp; try with_reducible rfl)
  try simp only [Act.put, List.setIfInBounds_toArray, List.set_cons_zero, List.set_cons_succ, List.getElem_toArray, List.getElem_cons_zero, List.getElem_cons_succ]
  refine wpAnyH_take (i := 23) (v := ?v24) rfl (by kernel_rfl) (by kernel_rfl) (by kernel_rfl) (fun _ _ _ h => h) (Or.inl ⟨by rfl, ?hy24⟩) hH ?rest24
  case hy24 => (intro w hSw; (try dsimp only at hSw); obtain ⟨fC00, fC01, fC02⟩ := SB.out w hSw; go_simp; try with_reducible rfl)
  try simp only [Act.put, List.setIfInBounds_toArray, List.set_cons_zero, List.set_cons_succ, List.getElem_toArray, List.getElem_cons_zero, List.getElem_cons_succ]
  refine wpAnyH_take (i := 25) (v := ?v25) rfl (by kernel_rfl) (by kernel_rfl) (by kernel_rfl) (fun _ _ _ h => h) (Or.inl ⟨by rfl, ?hy25⟩) hH ?rest25
  case hy25 => (intro w hSw; (try dsimp only at hSw); obtain ⟨fC00, fC01, fC02⟩ := SB.out w hSw; go_simp; try with_reducible rfl)
  try simp only [Act.put, List.setIfInBounds_toArray, List.set_cons_zero, List.set_cons_succ, List.getElem_toArray, List.getElem_cons_zero, List.getElem_cons_succ]
  refine wpAnyH_ready (rs := [24]) (by kernel_rfl) (by simp) ?_
  refine AllReadyH.cons rfl (fun K hK => ?_) AllReadyH.nil
  go_simp
  go_at_call 16
  with_reducible refine (GHM _ hH).out.mono ?_
  rintro e wq26 ⟨rfl, bq26⟩
  go_wp2_with fail
  refine hK.out _ _ (hH.trans (bq26.mono hH.size)) (fun hH2 => ?_)
  clear hK K hH
  have hH := hH2
  clear hH2
  try simp only [Act.put, List.setIfInBounds_toArray, List.set_cons_zero, List.set_cons_succ, List.getElem_toArray, List.getElem_cons_zero, List.getElem_cons_succ]
  refine wpAnyH_ready (rs := [26]) (by kernel_rfl) (by simp) ?_
  refine AllReadyH.cons rfl (fun K hK => ?_) AllReadyH.nil
  go_simp
  go_at_call 17
  with_reducible refine (GHMr _ hH).out.mono ?_
  rintro e wq27 ⟨rfl, bq27⟩
  go_wp2_with fail
  refine hK.out _ _ (hH.trans (bq27.mono hH.size)) (fun hH2 => ?_)
  clear hK K hH
  have hH := hH2
  clear hH2
  try simp only [Act.put, List.setIfInBounds_toArray, List.set_cons_zero, List.set_cons_succ, List.getElem_toArray, List.getElem_cons_zero, List.getElem_cons_succ]
  refine wpAnyH_take (i := 27) (v := ?v28) rfl (by kernel_rfl) (by kernel_rfl) (by kernel_rfl) (fun _ _ _ h => h) (Or.inl ⟨by rfl, ?hy28⟩) hH ?rest28
  case hy28 => (intro w hSw; (try dsimp only at hSw); go_simp; try with_reducible rfl)
  try simp only [Act.put, List.setIfInBounds_toArray, List.set_cons_zero, List.set_cons_succ, List.getElem_toArray, List.getElem_cons_zero, List.getElem_cons_succ]
  refine wpAnyH_take (i := 28) (v := ?v29) rfl (by kernel_rfl) (by kernel_rfl) (by kernel_rfl) (fun _ _ _ h => h) (Or.inl ⟨by rfl, ?hy29⟩) hH ?rest29
  case hy29 => (intro w hSw; (try dsimp only at hSw); go_simp; try with_reducible rfl)
  try simp only [Act.put, List.setIfInBounds_toArray, List.set_cons_zero, List.set_cons_succ, List.getElem_toArray, List.getElem_cons_zero, List.getElem_cons_succ]
  refine wpAnyH_take (i := 29) (v := ?v30) rfl (by kernel_rfl) (by kernel_rfl) (by kernel_rfl) (fun _ _ _ h => h) (Or.inl ⟨by rfl, ?hy30⟩) hH ?rest30
  case hy30 => (intro w hSw; (try dsimp only at hSw); go_simp; try with_reducible rfl)
  try simp only [Act.put, List.setIfInBounds_toArray, List.set_cons_zero, List.set_cons_succ, List.getElem_toArray, List.getElem_cons_zero, List.getElem_cons_succ]
  refine wpAnyH_take (i := 30) (v := ?v31) rfl (by kernel_rfl) (by kernel_rfl) (by kernel_rfl) (fun _ _ _ h => h) (Or.inl ⟨by rfl, ?hy31⟩) hH ?rest31
  case hy31 => (intro w hSw; (try dsimp only at hSw); obtain ⟨fC00, fC01, fC02⟩ := SB.out w hSw; go_simp; try with_reducible rfl)
  try simp only [Act.put, List.setIfInBounds_toArray, List.set_cons_zero, List.set_cons_succ, List.getElem_toArray, List.getElem_cons_zero, List.getElem_cons_succ]
  refine wpAnyH_take (i := 31) (v := ?v32) rfl (by kernel_rfl) (by kernel_rfl) (by kernel_rfl) (fun _ _ _ h => h) (Or.inl ⟨by rfl, ?hy32⟩) hH ?rest32
  case hy32 => (intro w hSw; (try dsimp only at hSw); go_simp; try with_reducible rfl)
  try simp only [Act.put, List.setIfInBounds_toArray, List.set_cons_zero, List.set_cons_succ, List.getElem_toArray, List.getElem_cons_zero, List.getElem_cons_succ]
  refine wpAnyH_take (i := 33) (v := ?v33) rfl (by kernel_rfl) (by kernel_rfl) (by kernel_rfl) (fun _ _ _ h => h) (Or.inl ⟨by rfl, ?hy33⟩) hH ?rest33
  case hy33 => (intro w hSw; (try dsimp only at hSw); obtain ⟨fC00, fC01, fC02⟩ := SB.out w hSw; go_simp; try with_reducible rfl)
  try simp only [Act.put, List.setIfInBounds_toArray, List.set_cons_zero, List.set_cons_succ, List.getElem_toArray, List.getElem_cons_zero, List.getElem_cons_succ]
  refine wpAnyH_take (i := 34) (v := ?v34) rfl (by kernel_rfl) (by kernel_rfl) (by kernel_rfl) (fun _ _ _ h => h) (Or.inl ⟨by rfl, ?hy34⟩) hH ?rest34
  case hy34 => (intro w hSw; (try dsimp only at hSw); go_simp; try with_reducible rfl)
  try simp only [Act.put, List.setIfInBounds_toArray, List.set_cons_zero, List.set_cons_succ, List.getElem_toArray, List.getElem_cons_zero, List.getElem_cons_succ]
  refine wpAnyH_ready (rs := [32]) (by kernel_rfl) (by simp) ?_
  refine AllReadyH.cons rfl (fun K hK => ?_) AllReadyH.nil
  go_simp
  go_at_call 18
  with_reducible refine (GHI _ hH).out.mono ?_
  rintro e wq35 ⟨rfl, bq35⟩
  go_wp2_with fail
  refine hK.out _ _ (hH.trans (bq35.mono hH.size)) (fun hH2 => ?_)
  clear hK K hH
  have hH := hH2
  clear hH2
  try simp only [Act.put, List.setIfInBounds_toArray, List.set_cons_zero, List.set_cons_succ, List.getElem_toArray, List.getElem_cons_zero, List.getElem_cons_succ]
  refine wpAnyH_ready (rs := [35]) (by kernel_rfl) (by simp) ?_
  refine AllReadyH.cons rfl (fun K hK => ?_) AllReadyH.nil
  go_simp
  go_at_call 19
  with_reducible refine (GHIr _ hH).out.mono ?_
  rintro e wq36 ⟨rfl, bq36⟩
  go_wp2_with fail
  refine hK.out _ _ (hH.trans (bq36.mono hH.size)) (fun hH2 => ?_)
  clear hK K hH
  have hH := hH2
  clear hH2
  try simp only [Act.put, List.setIfInBounds_toArray, List.set_cons_zero, List.set_cons_succ, List.getElem_toArray, List.getElem_cons_zero, List.getElem_cons_succ]
  refine wpAnyH_take (i := 36) (v := ?v37) rfl (by kernel_rfl) (by kernel_rfl) (by kernel_rfl) (fun _ _ _ h => h) (Or.inl ⟨by rfl, ?hy37⟩) hH ?rest37
  case hy37 => (intro w hSw; (try dsimp only at hSw); go_simp; try with_reducible rfl)
  try simp only [Act.put, List.setIfInBounds_toArray, List.set_cons_zero, List.set_cons_succ, List.getElem_toArray, List.getElem_cons_zero, List.getElem_cons_succ]
  refine wpAnyH_take (i := 37) (v := ?v38) rfl (by kernel_rfl) (by kernel_rfl) (by kernel_rfl) (fun _ _ _ h => h) (Or.inl ⟨by rfl, ?hy38⟩) hH ?rest38
  case hy38 => (intro w hSw; (try dsimp only at hSw); go_simp; try with_reducible rfl)
  try simp only [Act.put, List.setIfInBounds_toArray, List.set_cons_zero, List.set_cons_succ, List.getElem_toArray, List.getElem_cons_zero, List.getElem_cons_succ]
  refine wpAnyH_take (i := 38) (v := ?v39) rfl (by kernel_rfl) (by kernel_rfl) (by kernel_rfl) (fun _ _ _ h => h) (Or.inl ⟨by rfl, ?hy39⟩) hH ?rest39
  case hy39 => (intro w hSw; (try dsimp only at hSw); go_simp; try with_reducible rfl)
  try simp only [Act.put, List.setIfInBounds_toArray, List.set_cons_zero, List.set_cons_succ, List.getElem_toArray, List.getElem_cons_zero, List.getElem_cons_succ]
  refine wpAnyH_done (by kernel_rfl) ?_ _
  have BF := BE.trans (hH.mono BE.size)
  go_wp2
  go_ret
  exact ⟨rfl, BF⟩

theorem small {c x : Ch} {n : Int} {e : Nat} (hc : c.l.length ≤ 100) (h : joins c n = (x, e) ∨ leaves c n = (x, e)) : x.l.length ≤ 1000 := by
  by_cases h0 : e = 0
  · subst h0
    rcases h with h | h
    · have f := (joins_may h).2.2.2.2.2
      have f2 : x.l.length ≤ 16 := f.2.1.2
      omega
    · have f := (leaves_may h).2.2.2.2
      have f2 : x.l.length ≤ 16 := f.2.1.2
      omega
  · rcases h with h | h
    · have f := joins_none (c := c) (n := n) (by rw [h]; exact h0)
      rw [h] at f
      rw [show x = Ch.none from f]
      exact Nat.zero_le _
    · have f : x = Ch.none := by
        unfold leaves at h
        repeat' split at h
        all_goals first | exact (Prod.mk.inj h).1.symm | (exfalso; exact h0 (Prod.mk.inj h).2.symm)
      rw [f]
      exact Nat.zero_le _
theorem opened {a n : Int} : (opens a n).1.l.length ≤ 1000 := by
  unfold opens
  split
  · show [n].length ≤ 1000
    simp
  · exact Nat.zero_le _

theorem walk (a0 o0 : Int) (A0 : Option Addr) (c0 : Nat) (l0 : List Int) (a1 a2 : Int) (w : World) (s0 : Sl w w.heap.size .i64 A0 l0) (m0 : l0.length ≤ c0) : Calls Try.prog 3 #[.agg #[.int .i64 a0, .int .i64 o0, .slice A0 l0.length c0], .int .i64 a1, .int .i64 a2] w (UpPost w) := by
  by_cases hl : (100 : Int) < (l0.length : Int)
  · exact long a0 o0 A0 c0 l0 a1 a2 w s0 m0 hl
  have hl2 : l0.length ≤ 100 := by omega
  rcases hj : joins ⟨a0, o0, l0⟩ a1 with ⟨⟨i1, o1, l1⟩, e1⟩
  rcases hk : leaves ⟨a0, o0, l0⟩ a1 with ⟨⟨i2, o2, l2⟩, e2⟩
  rcases ho : opens a2 a1 with ⟨⟨i3, o3, l3⟩, e3⟩
  have b1 : l1.length ≤ 1000 := small (c := ⟨a0, o0, l0⟩) hl2 (.inl hj)
  have b2 : l2.length ≤ 1000 := small (c := ⟨a0, o0, l0⟩) hl2 (.inr hk)
  have b3 : l3.length ≤ 1000 := by have := @opened a2 a1; rw [ho] at this; exact this
  refine rest a0 o0 A0 c0 l0 a1 a2 w s0 m0 hl i1 o1 e1 i2 o2 e2 i3 o3 e3 l1 l2 l3 (mb a0 o0 l0) (mb a0 o0 l0 && decide (a1 ∈ l0))
    (fun A c W hc h => cho' (join_any a0 o0 A c l0 a1 W (by omega) hc h) hj rfl) (fun A c W hc h => cho' (rjoin_any a0 o0 A c l0 a1 W (by omega) hc h) hj rfl)
    (fun A c W hc h => cho' (leave_any a0 o0 A c l0 a1 W (by omega) hc h) hk rfl) (fun A c W hc h => cho' (rleave_any a0 o0 A c l0 a1 W (by omega) hc h) hk rfl)
    (fun W => cho' (open_any a2 a1 W) ho rfl) (fun W => cho' (ropen_any a2 a1 W) ho rfl)
    (fun A c W hc h => may_any a0 o0 A c l0 W (by omega) h) (fun A c W hc h => rmay_any a0 o0 A c l0 W (by omega) h)
    (fun A c W hc h => in_any a0 o0 A c l0 a1 W (by omega) h) (fun A c W hc h => rin_any a0 o0 A c l0 a1 W (by omega) h) ?_ ?_ ?_
  all_goals intro A A2 c c2 W h h2
  · have := same_any i1 o1 i1 o1 A A2 c c2 l1 l1 W b1 b1 h h2; rw [sm_self] at this; exact this
  · have := same_any i2 o2 i2 o2 A A2 c c2 l2 l2 W b2 b2 h h2; rw [sm_self] at this; exact this
  · have := same_any i3 o3 i3 o3 A A2 c c2 l3 l3 W b3 b3 h h2; rw [sm_self] at this; exact this

theorem own : ownKnob Try.prog.godebug = none := by kernel_rfl
theorem laidOut : laidOutB Try.prog = true := by kernel_rfl

set_option maxRecDepth 100000 in
theorem lifted (os : Os) (started : os.Started) (H : Type) (enc : TypeId × Value → H) :
    ReturnsInHanded {} Try.checked os 3 .any (Rows.peopleChangeSpec.pre6 enc Try.prog Try.f3 Rows.peopleChangeRow.domain false) (Rows.peopleChangeSpec.post enc Try.prog Try.f3 false true false false) := by
  refine returnsInHanded_of_change (C := Try.checked) own started (by kernel_rfl) Try.func3
    (ChangeSpec.witness6 (enc := enc) (C := Try.checked) false ⟨#[], #[.agg #[.int .i64 0, .int .i64 0, .slice none 0 0], .int .i64 0, .int .i64 0], []⟩ 8 (by kernel_rfl) (by kernel_rfl) (by kernel_rfl) (by kernel_rfl)) ?_
  intro W base args ds gs before hval0 hW hcnd _
  have hval : ∀ (j : Nat) t v, Try.f3.params[j]? = some t → args[j]? = some v → Value.okWide Try.prog W .any base t v := hval0
  have hW' := hW
  obtain ⟨p, q, hA, hV, rfl, hfz, hnd⟩ := hW
  have hA : DataW.TrodAll enc Try.prog W 0 (fun _ => true) true Try.f3.params.toList args.toList ds p := hA
  rw [Try.params3] at hA hval
  obtain ⟨v0, vs0, d0, ds0, p0, q0, hargs, rfl, rfl, h0, r0⟩ := trodAll_cons hA
  obtain ⟨v1, vs1, d1, ds1, p1, q1, rfl, rfl, rfl, h1, r1⟩ := trodAll_cons r0
  obtain ⟨v2, vs2, d2, ds2, p2, q2, rfl, rfl, rfl, h2, r2⟩ := trodAll_cons r1
  obtain ⟨rfl, rfl, rfl⟩ := trodAll_nil r2
  obtain rfl : args = #[v0, v1, v2] := by cases args; simp_all
  obtain ⟨rfl, rfl⟩ := trodVars_none hV
  have k0 := h0
  have lt0 : ∀ x ∈ p0, x.block < W.heap.size := by obtain ⟨m, hm⟩ := k0; exact DataW.trod_lt m _ _ _ hm
  obtain ⟨a0, o0, A0, c0, l0, rfl, s0, m0⟩ := open_ch (hval 0 24 v0 rfl rfl) h0
  obtain ⟨a1, rfl, rfl, rfl, w1⟩ := open_int Try.underlying3 (hval 1 3 v1 rfl rfl) h1
  obtain ⟨a2, rfl, rfl, rfl, w2⟩ := open_int Try.underlying3 (hval 2 3 v2 rfl rfl) h2
  clear hval0
  refine (walk a0 o0 A0 c0 l0 a1 a2 W s0 m0  ).mono fun e W' ⟨he, bel⟩ => ?_
  subst he
  exact ⟨_, rfl, _, _, _, [], _, [], hW', trodAll_mk1 (shut_bool Try.underlying4 _), (trodAll_cons_mk (Below.trod laidOut (by kernel_rfl) (of_decide_eq_true (by kernel_rfl)) k0 bel lt0) (trodAll_cons_mk (shut_int Try.underlying3 w1) (trodAll_cons_mk (shut_int Try.underlying3 w2) trodAll_mk0))), rfl, bel.frame _, fun h => by cases h⟩

theorem over : Rows.peopleChangeRow.holds Try.pinned (OpenSpec.ofChange Rows.peopleChangeSpec) :=
  OpenClaim.holds_of_wide 3 Try.f3 rfl rfl rfl rfl rfl rfl rfl ⟨rfl, rfl, rfl, rfl, rfl⟩ rfl rfl rfl rfl rfl (by kernel_rfl) Try.func3 (by kernel_rfl)
    (of_decide_eq_true (by kernel_rfl)) (by unfold Func.isWrapper; first | (rw [if_pos (by decide +kernel)]; kernel_rfl) | (rw [if_neg (by decide +kernel)]; exact ⟨rfl, rfl⟩))
    (fun os started H enc _ => lifted os started H enc)

theorem proved : Rows.PeopleChangeSaid := over
#print axioms proved
end Go.Proofs.Ytpelopfbdfnmeaa.peopleChange
