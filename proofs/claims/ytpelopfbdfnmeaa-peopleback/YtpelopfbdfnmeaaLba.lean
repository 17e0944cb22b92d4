/-
  Who joined is in it, and can't join once more; who joins and leaves leaves it as it was; others stay in it, or out of it: PeopleBack answers true whatever the channel and the two users; they read as they did. Conditions: none.
-/
import Derived.Test.YtpelopfbdfnmeaaOpen
import Derived.Test.YtpelopfbdfnmeaaLe
import Derived.Test.YtpelopfbdfnmeaaSm
import Derived.Test.YtpelopfbdfnmeaaAwk
import Derived.Deep.RegionLaw
namespace Go.Proofs.Ytpelopfbdfnmeaa.peopleBack
open Go.ChangeShapes Go.WideShapes Go.ChangeAt Go.RowKit
set_option linter.unusedVariables false
set_option linter.unusedSimpArgs false

theorem long (a0 o0 : Int) (A0 : Option Addr) (c0 : Nat) (l0 : List Int) (a1 a2 : Int) (w : World) (s0 : Sl w w.heap.size .i64 A0 l0) (m0 : l0.length ≤ c0) (hl : (100 : Int) < (l0.length : Int)) : Calls Try.prog 5 #[.agg #[.int .i64 a0, .int .i64 o0, .slice A0 l0.length c0], .int .i64 a1, .int .i64 a2] w (UpPost w) := by
  have BE := box_below w a0 o0 A0 l0.length c0
  have C0 := (cx_new w a0 o0 A0 l0.length c0).cb
  have SC0 := s0.up BE
  clear s0
  go_enter Try.func5, Try.ntmps5
  go_wp2_with fail
  generalize w.alloc (.cells #[.int .i64 a0, .int .i64 o0, .slice A0 l0.length c0] 24) = W0 at *
  refine (awake_any W0).out.mono ?_
  rintro e w1 ⟨rfl, B1⟩
  replace C0 := C0.on B1 C0.lt
  replace SC0 := SC0.up B1
  replace BE := BE.trans (B1.mono BE.size)
  obtain ⟨pC00, pC01, pC02⟩ := id C0
  go_wp2
  go_ret
  exact ⟨rfl, BE⟩

theorem no (a0 o0 : Int) (A0 : Option Addr) (c0 : Nat) (l0 : List Int) (a1 a2 : Int) (w : World) (s0 : Sl w w.heap.size .i64 A0 l0) (m0 : l0.length ≤ c0) (hl : ¬ (100 : Int) < (l0.length : Int)) (i1 o1 e1 : Int) (l1 : List Int) (he : (e1 == 0) = false) (h0 : ((l1.length : Int) == 0) = true) (HJ : ∀ A c W, l0.length ≤ c → Sl W W.heap.size .i64 A l0 → Hid (Calls Try.prog 9 #[.agg #[.int .i64 a0, .int .i64 o0, .slice A l0.length c], .int .i64 a1] W (ChPo W i1 o1 l1 e1))) : Calls Try.prog 5 #[.agg #[.int .i64 a0, .int .i64 o0, .slice A0 l0.length c0], .int .i64 a1, .int .i64 a2] w (UpPost w) := by
  have BE := box_below w a0 o0 A0 l0.length c0
  have C0 := (cx_new w a0 o0 A0 l0.length c0).cb
  have SC0 := s0.up BE
  clear s0
  go_enter Try.func5, Try.ntmps5
  go_wp2_with fail
  generalize w.alloc (.cells #[.int .i64 a0, .int .i64 o0, .slice A0 l0.length c0] 24) = W0 at *
  refine (awake_any W0).out.mono ?_
  rintro e w1 ⟨rfl, B1⟩
  replace C0 := C0.on B1 C0.lt
  replace SC0 := SC0.up B1
  replace BE := BE.trans (B1.mono BE.size)
  obtain ⟨pC00, pC01, pC02⟩ := id C0
  go_wp2_with fail
  clear pC00 pC01 pC02
  refine (HJ _ _ _ m0 SC0).out.mono ?_
  rintro e w2 ⟨A2, c2, rfl, hc2, hf2, B2⟩
  replace C0 := C0.on B2 C0.lt
  replace SC0 := SC0.up B2
  replace BE := BE.trans (B2.mono BE.size)
  have BB2 := box_below w2 i1 o1 A2 l1.length c2
  replace C0 := C0.on BB2 C0.lt
  replace SC0 := SC0.up BB2
  replace BE := BE.trans (BB2.mono BE.size)
  have C1 := (cx_new w2 i1 o1 A2 l1.length c2).cb
  have SC1 := hf2.sl.up BB2
  clear hf2
  obtain ⟨pC10, pC11, pC12⟩ := id C1
  go_wp2_with fail
  clear pC10 pC11 pC12
  generalize w2.alloc (.cells #[.int .i64 i1, .int .i64 o1, .slice A2 l1.length c2] 24) = v2 at *
  go_wp2
  go_ret
  exact ⟨rfl, BE⟩

set_option maxHeartbeats 4000000 in
theorem yes (a0 o0 : Int) (A0 : Option Addr) (c0 : Nat) (l0 : List Int) (a1 a2 : Int) (w : World) (s0 : Sl w w.heap.size .i64 A0 l0) (m0 : l0.length ≤ c0) (hl : ¬ (100 : Int) < (l0.length : Int)) (i2 o2 i3 o3 : Int) (l1 l2 l3 : List Int) (q : Bool)
    (HJ : ∀ A c W, l0.length ≤ c → Sl W W.heap.size .i64 A l0 → Hid (Calls Try.prog 9 #[.agg #[.int .i64 a0, .int .i64 o0, .slice A l0.length c], .int .i64 a1] W (ChPo W a0 o0 l1 0)))
    (HK : ∀ A c W, l1.length ≤ c → Sl W W.heap.size .i64 A l1 → Hid (Calls Try.prog 9 #[.agg #[.int .i64 a0, .int .i64 o0, .slice A l1.length c], .int .i64 a1] W (ChPo W i2 o2 l2 6)))
    (HL : ∀ A c W, l1.length ≤ c → Sl W W.heap.size .i64 A l1 → Hid (Calls Try.prog 11 #[.agg #[.int .i64 a0, .int .i64 o0, .slice A l1.length c], .int .i64 a1] W (ChPo W a0 o0 l0 0)))
    (HM : ∀ A c W, l0.length ≤ c → Sl W W.heap.size .i64 A l0 → Hid (Calls Try.prog 11 #[.agg #[.int .i64 a0, .int .i64 o0, .slice A l0.length c], .int .i64 a1] W (ChPo W i3 o3 l3 5)))
    (HS : ∀ A A2 c c2 W, Sl W W.heap.size .i64 A l0 → Sl W W.heap.size .i64 A2 l0 → Hid (Calls Try.prog 15 #[.agg #[.int .i64 a0, .int .i64 o0, .slice A l0.length c], .agg #[.int .i64 a0, .int .i64 o0, .slice A2 l0.length c2]] W (BoolPost W true)))
    (HI : ∀ A c W, l1.length ≤ c → Sl W W.heap.size .i64 A l1 → Hid (Calls Try.prog 18 #[.agg #[.int .i64 a0, .int .i64 o0, .slice A l1.length c], .int .i64 a1] W (BoolPost W true)))
    (HN : a2 ≠ a1 → ∀ A c W, l1.length ≤ c → Sl W W.heap.size .i64 A l1 → Hid (Calls Try.prog 18 #[.agg #[.int .i64 a0, .int .i64 o0, .slice A l1.length c], .int .i64 a2] W (BoolPost W q)))
    (HQ : ∀ A c W, l0.length ≤ c → Sl W W.heap.size .i64 A l0 → Hid (Calls Try.prog 18 #[.agg #[.int .i64 a0, .int .i64 o0, .slice A l0.length c], .int .i64 a2] W (BoolPost W q))) : Calls Try.prog 5 #[.agg #[.int .i64 a0, .int .i64 o0, .slice A0 l0.length c0], .int .i64 a1, .int .i64 a2] w (UpPost w) := by
  have BE := box_below w a0 o0 A0 l0.length c0
  have C0 := (cx_new w a0 o0 A0 l0.length c0).cb
  have SC0 := s0.up BE
  clear s0
  go_enter Try.func5, Try.ntmps5
  go_wp2_with fail
  generalize w.alloc (.cells #[.int .i64 a0, .int .i64 o0, .slice A0 l0.length c0] 24) = W0 at *
  refine (awake_any W0).out.mono ?_
  rintro e w1 ⟨rfl, B1⟩
  replace C0 := C0.on B1 C0.lt
  replace SC0 := SC0.up B1
  replace BE := BE.trans (B1.mono BE.size)
  obtain ⟨pC00, pC01, pC02⟩ := id C0
  go_wp2_with fail
  clear pC00 pC01 pC02
  refine (HJ _ _ _ m0 SC0).out.mono ?_
  rintro e w2 ⟨A2, c2, rfl, hc2, hf2, B2⟩
  replace C0 := C0.on B2 C0.lt
  replace SC0 := SC0.up B2
  replace BE := BE.trans (B2.mono BE.size)
  have BB2 := box_below w2 a0 o0 A2 l1.length c2
  replace C0 := C0.on BB2 C0.lt
  replace SC0 := SC0.up BB2
  replace BE := BE.trans (BB2.mono BE.size)
  have C1 := (cx_new w2 a0 o0 A2 l1.length c2).cb
  have SC1 := hf2.sl.up BB2
  clear HJ
  clear hf2
  obtain ⟨pC10, pC11, pC12⟩ := id C1
  go_wp2_with fail
  clear pC10 pC11 pC12
  generalize w2.alloc (.cells #[.int .i64 a0, .int .i64 o0, .slice A2 l1.length c2] 24) = v2 at *
  refine (HK _ _ _ hc2 SC1).out.mono ?_
  rintro e w3 ⟨A3, c3, rfl, hc3, hf3, B3⟩
  replace C0 := C0.on B3 C0.lt
  replace C1 := C1.on B3 C1.lt
  replace SC0 := SC0.up B3
  replace SC1 := SC1.up B3
  replace BE := BE.trans (B3.mono BE.size)
  have BB3 := box_below w3 i2 o2 A3 l2.length c3
  replace C0 := C0.on BB3 C0.lt
  replace C1 := C1.on BB3 C1.lt
  replace SC0 := SC0.up BB3
  replace SC1 := SC1.up BB3
  replace BE := BE.trans (BB3.mono BE.size)
  have C2 := (cx_new w3 i2 o2 A3 l2.length c3).cb
  have SC2 := hf3.sl.up BB3
  clear HK
  clear hf3
  obtain ⟨pC10, pC11, pC12⟩ := id C1
  go_wp2_with fail
  clear pC10 pC11 pC12
  generalize w3.alloc (.cells #[.int .i64 i2, .int .i64 o2, .slice A3 l2.length c3] 24) = v3 at *
  clear C2 SC2
  refine (HL _ _ _ hc2 SC1).out.mono ?_
  rintro e w4 ⟨A4, c4, rfl, hc4, hf4, B4⟩
  replace C0 := C0.on B4 C0.lt
  replace C1 := C1.on B4 C1.lt
  replace SC0 := SC0.up B4
  replace SC1 := SC1.up B4
  replace BE := BE.trans (B4.mono BE.size)
  have BB4 := box_below w4 a0 o0 A4 l0.length c4
  replace C0 := C0.on BB4 C0.lt
  replace C1 := C1.on BB4 C1.lt
  replace SC0 := SC0.up BB4
  replace SC1 := SC1.up BB4
  replace BE := BE.trans (BB4.mono BE.size)
  have C3 := (cx_new w4 a0 o0 A4 l0.length c4).cb
  have SC3 := hf4.sl.up BB4
  clear HL
  clear hf4
  obtain ⟨pC30, pC31, pC32⟩ := id C3
  go_wp2_with fail
  clear pC30 pC31 pC32
  generalize w4.alloc (.cells #[.int .i64 a0, .int .i64 o0, .slice A4 l0.length c4] 24) = v4 at *
  refine (HM _ _ _ hc4 SC3).out.mono ?_
  rintro e w5 ⟨A5, c5, rfl, hc5, hf5, B5⟩
  replace C0 := C0.on B5 C0.lt
  replace C1 := C1.on B5 C1.lt
  replace C3 := C3.on B5 C3.lt
  replace SC0 := SC0.up B5
  replace SC1 := SC1.up B5
  replace SC3 := SC3.up B5
  replace BE := BE.trans (B5.mono BE.size)
  have BB5 := box_below w5 i3 o3 A5 l3.length c5
  replace C0 := C0.on BB5 C0.lt
  replace C1 := C1.on BB5 C1.lt
  replace C3 := C3.on BB5 C3.lt
  replace SC0 := SC0.up BB5
  replace SC1 := SC1.up BB5
  replace SC3 := SC3.up BB5
  replace BE := BE.trans (BB5.mono BE.size)
  have C4 := (cx_new w5 i3 o3 A5 l3.length c5).cb
  have SC4 := hf5.sl.up BB5
  clear HM
  clear hf5
  obtain ⟨pC30, pC31, pC32⟩ := id C3
  obtain ⟨pC00, pC01, pC02⟩ := id C0
  go_wp2_with fail
  clear pC30 pC31 pC32 pC00 pC01 pC02
  generalize w5.alloc (.cells #[.int .i64 i3, .int .i64 o3, .slice A5 l3.length c5] 24) = v5 at *
  clear C4 SC4
  refine (HS _ _ _ _ _ SC3 SC0).out.mono ?_
  rintro e w6 ⟨rfl, B6⟩
  replace C0 := C0.on B6 C0.lt
  replace C1 := C1.on B6 C1.lt
  replace C3 := C3.on B6 C3.lt
  replace SC0 := SC0.up B6
  replace SC1 := SC1.up B6
  replace SC3 := SC3.up B6
  replace BE := BE.trans (B6.mono BE.size)
  clear HS
  have GHI : ∀ V, Below w6.heap.size w6 V → Hid (Calls Try.prog 18 #[.agg #[.int .i64 a0, .int .i64 o0, .slice A2 l1.length c2], .int .i64 a1] V (BoolPost V true)) := fun V hV => HI _ _ V hc2 (SC1.up hV)
  have GHQ : ∀ V, Below w6.heap.size w6 V → Hid (Calls Try.prog 18 #[.agg #[.int .i64 a0, .int .i64 o0, .slice A0 l0.length c0], .int .i64 a2] V (BoolPost V q)) := fun V hV => HQ _ _ V m0 (SC0.up hV)
  have SB : Hid (∀ v, Below w6.heap.size w6 v → Cb v (w2.heap.size) a0 o0 A2 l1.length c2 ∧ Cb v (w.heap.size) a0 o0 A0 l0.length c0) := Lib.hid (fun v g => ⟨C1.on g C1.lt, C0.on g C0.lt⟩)
  have BD : Hid (Below w6.heap.size w6 w6.drew) := (Below.refl _ _).drew
  by_cases he : a2 = a1
  · subst he
    clear HN HI HQ C0 C1 C3 SC0 SC1 SC3 GHQ
    go_wp2_with fail
    refine wp_region_held_drew (S := fun v => Below w6.heap.size w6 v) (by kernel_rfl) BD.out (fun hH => ?_)
    refine wpAnyH_take (i := 0) (v := ?v40) rfl (by kernel_rfl) (by kernel_rfl) (by kernel_rfl) (fun _ _ _ h => h) (Or.inl ⟨by rfl, ?hy40⟩) hH ?rest40
    case hy40 => (intro w hSw; (try dsimp only at hSw); go_simp; try with_reducible rfl)
    try simp only [Act.put, List.setIfInBounds_toArray, List.set_cons_zero, List.set_cons_succ, List.getElem_toArray, List.getElem_cons_zero]
    refine wpAnyH_take (i := 1) (v := ?v41) rfl (by kernel_rfl) (by kernel_rfl) (by kernel_rfl) (fun _ _ _ h => h) (Or.inl ⟨by rfl, ?hy41⟩) hH ?rest41
    case hy41 => (intro w hSw; (try dsimp only at hSw); go_simp; try with_reducible rfl)
    try simp only [Act.put, List.setIfInBounds_toArray, List.set_cons_zero, List.set_cons_succ, List.getElem_toArray, List.getElem_cons_zero, List.getElem_cons_succ]
    refine wpAnyH_take (i := 2) (v := ?v42) rfl (by kernel_rfl) (by kernel_rfl) (by kernel_rfl) (fun _ _ _ h => h) (Or.inl ⟨by rfl, ?hy42⟩) hH ?rest42
    case hy42 => (intro w hSw; (try dsimp only at hSw); go_simp; try with_reducible rfl)
    try simp only [Act.put, List.setIfInBounds_toArray, List.set_cons_zero, List.set_cons_succ, List.getElem_toArray, List.getElem_cons_zero, List.getElem_cons_succ]
    refine wpAnyH_take (i := 3) (v := ?v43) rfl (by kernel_rfl) (by kernel_rfl) (by kernel_rfl) (fun _ _ _ h => h) (Or.inl ⟨by rfl, ?hy43⟩) hH ?rest43
    case hy43 => (intro w hSw; (try dsimp only at hSw); go_simp; try with_reducible rfl)
    try simp only [Act.put, List.setIfInBounds_toArray, List.set_cons_zero, List.set_cons_succ, List.getElem_toArray, List.getElem_cons_zero, List.getElem_cons_succ]
    refine wpAnyH_take (i := 4) (v := ?v44) rfl (by kernel_rfl) (by kernel_rfl) (by kernel_rfl) (fun _ _ _ h => h) (Or.inl ⟨by rfl, ?hy44⟩) hH ?rest44
    case hy44 => (intro w hSw; (try dsimp only at hSw); go_simp; try with_reducible rfl)
    try simp only [Act.put, List.setIfInBounds_toArray, List.set_cons_zero, List.set_cons_succ, List.getElem_toArray, List.getElem_cons_zero, List.getElem_cons_succ]
    refine wpAnyH_take (i := 5) (v := ?v45) rfl (by kernel_rfl) (by kernel_rfl) (by kernel_rfl) (fun _ _ _ h => h) (Or.inl ⟨by rfl, ?hy45⟩) hH ?rest45
    case hy45 => (intro w hSw; (try dsimp only at hSw); go_simp; try with_reducible rfl)
    try simp only [Act.put, List.setIfInBounds_toArray, List.set_cons_zero, List.set_cons_succ, List.getElem_toArray, List.getElem_cons_zero, List.getElem_cons_succ]
    refine wpAnyH_take (i := 6) (v := ?v46) rfl (by kernel_rfl) (by kernel_rfl) (by kernel_rfl) (fun _ _ _ h => h) (Or.inl ⟨by rfl, ?hy46⟩) hH ?rest46
    case hy46 => (intro w hSw; (try dsimp only at hSw); go_simp; try with_reducible rfl)
    try simp only [Act.put, List.setIfInBounds_toArray, List.set_cons_zero, List.set_cons_succ, List.getElem_toArray, List.getElem_cons_zero, List.getElem_cons_succ]
    refine wpAnyH_take (i := 7) (v := ?v47) rfl (by kernel_rfl) (by kernel_rfl) (by kernel_rfl) (fun _ _ _ h => h) (Or.inl ⟨by rfl, ?hy47⟩) hH ?rest47
    case hy47 => (intro w hSw; (try dsimp only at hSw); go_simp; try with_reducible rfl)
    try simp only [Act.put, List.setIfInBounds_toArray, List.set_cons_zero, List.set_cons_succ, List.getElem_toArray, List.getElem_cons_zero, List.getElem_cons_succ]
    refine wpAnyH_take (i := 8) (v := ?v48) rfl (by kernel_rfl) (by kernel_rfl) (by kernel_rfl) (fun _ _ _ h => h) (Or.inl ⟨by rfl, ?hy48⟩) hH ?rest48
    case hy48 => (intro w hSw; (try dsimp only at hSw); go_simp; try with_reducible rfl)
    try simp only [Act.put, List.setIfInBounds_toArray, List.set_cons_zero, List.set_cons_succ, List.getElem_toArray, List.getElem_cons_zero, List.getElem_cons_succ]
    refine wpAnyH_take (i := 9) (v := ?v49) rfl (by kernel_rfl) (by kernel_rfl) (by kernel_rfl) (fun _ _ _ h => h) (Or.inl ⟨by rfl, ?hy49⟩) hH ?rest49
    case hy49 => (intro w hSw; (try dsimp only at hSw); go_simp; try with_reducible rfl)
    try simp only [Act.put, List.setIfInBounds_toArray, List.set_cons_zero, List.set_cons_succ, List.getElem_toArray, List.getElem_cons_zero, List.getElem_cons_succ]
    refine wpAnyH_take (i := 10) (v := ?v50) rfl (by kernel_rfl) (by kernel_rfl) (by kernel_rfl) (fun _ _ _ h => h) (Or.inl ⟨by rfl, ?hy50⟩) hH ?rest50
    case hy50 => (intro w hSw; (try dsimp only at hSw); go_simp; try with_reducible rfl)
    try simp only [Act.put, List.setIfInBounds_toArray, List.set_cons_zero, List.set_cons_succ, List.getElem_toArray, List.getElem_cons_zero, List.getElem_cons_succ]
    refine wpAnyH_take (i := 11) (v := ?v51) rfl (by kernel_rfl) (by kernel_rfl) (by kernel_rfl) (fun _ _ _ h => h) (Or.inl ⟨by rfl, ?hy51⟩) hH ?rest51
    case hy51 => (intro w hSw; (try dsimp only at hSw); go_simp; try with_reducible rfl)
    try simp only [Act.put, List.setIfInBounds_toArray, List.set_cons_zero, List.set_cons_succ, List.getElem_toArray, List.getElem_cons_zero, List.getElem_cons_succ]
    refine wpAnyH_take (i := 12) (v := ?v52) rfl (by kernel_rfl) (by kernel_rfl) (by kernel_rfl) (fun _ _ _ h => h) (Or.inl ⟨by rfl, ?hy52⟩) hH ?rest52
    case hy52 => (intro w hSw; (try dsimp only at hSw); go_simp; try with_reducible rfl)
    try simp only [Act.put, List.setIfInBounds_toArray, List.set_cons_zero, List.set_cons_succ, List.getElem_toArray, List.getElem_cons_zero, List.getElem_cons_succ]
    refine wpAnyH_take (i := 13) (v := ?v53) rfl (by kernel_rfl) (by kernel_rfl) (by kernel_rfl) (fun _ _ _ h => h) (Or.inl ⟨by rfl, ?hy53⟩) hH ?rest53
    case hy53 => (intro w hSw; (try dsimp only at hSw); go_simp; try with_reducible rfl)
    try simp only [Act.put, List.setIfInBounds_toArray, List.set_cons_zero, List.set_cons_succ, List.getElem_toArray, List.getElem_cons_zero, List.getElem_cons_succ]
    refine wpAnyH_take (i := 14) (v := ?v54) rfl (by kernel_rfl) (by kernel_rfl) (by kernel_rfl) (fun _ _ _ h => h) (Or.inl ⟨by rfl, ?hy54⟩) hH ?rest54
    case hy54 => (intro w hSw; (try dsimp only at hSw); obtain ⟨⟨fC10, fC11, fC12⟩, ⟨fC00, fC01, fC02⟩⟩ := SB.out w hSw; go_simp; try with_reducible rfl)
    try simp only [Act.put, List.setIfInBounds_toArray, List.set_cons_zero, List.set_cons_succ, List.getElem_toArray, List.getElem_cons_zero, List.getElem_cons_succ]
    refine wpAnyH_take (i := 15) (v := ?v55) rfl (by kernel_rfl) (by kernel_rfl) (by kernel_rfl) (fun _ _ _ h => h) (Or.inl ⟨by rfl, ?hy55⟩) hH ?rest55
    case hy55 => (intro w hSw; (try dsimp only at hSw); go_simp; try with_reducible rfl)
    try simp only [Act.put, List.setIfInBounds_toArray, List.set_cons_zero, List.set_cons_succ, List.getElem_toArray, List.getElem_cons_zero, List.getElem_cons_succ]
    refine wpAnyH_ready (rs := [16]) (by kernel_rfl) (by simp) ?_
    refine AllReadyH.cons rfl (fun K hK => ?_) AllReadyH.nil
    go_simp
    go_at_call 18
    with_reducible refine (GHI _ hH).out.mono ?_
    rintro e wq56 ⟨rfl, bq56⟩
    go_wp2_with fail
    refine hK.out _ _ (hH.trans (bq56.mono hH.size)) (fun hH2 => ?_)
    clear hK K hH
    have hH := hH2
    clear hH2
    try simp only [Act.put, List.setIfInBounds_toArray, List.set_cons_zero, List.set_cons_succ, List.getElem_toArray, List.getElem_cons_zero, List.getElem_cons_succ]
    refine wpAnyH_take (i := 17) (v := ?v57) rfl (by kernel_rfl) (by kernel_rfl) (by kernel_rfl) (fun _ _ _ h => h) (Or.inl ⟨by rfl, ?hy57⟩) hH ?rest57
    case hy57 => (intro w hSw; (try dsimp only at hSw); go_simp; try with_reducible rfl)
    try simp only [Act.put, List.setIfInBounds_toArray, List.set_cons_zero, List.set_cons_succ, List.getElem_toArray, List.getElem_cons_zero, List.getElem_cons_succ]
    refine wpAnyH_take (i := 18) (v := ?v58) rfl (by kernel_rfl) (by kernel_rfl) (by kernel_rfl) (fun _ _ _ h => h) (Or.inl ⟨by rfl, ?hy58⟩) hH ?rest58
    case hy58 => (intro w hSw; (try dsimp only at hSw); go_simp; try with_reducible rfl)
    try simp only [Act.put, List.setIfInBounds_toArray, List.set_cons_zero, List.set_cons_succ, List.getElem_toArray, List.getElem_cons_zero, List.getElem_cons_succ]
    refine wpAnyH_take (i := 19) (v := ?v59) rfl (by kernel_rfl) (by kernel_rfl) (by kernel_rfl) (fun _ _ _ h => h) (Or.inl ⟨by rfl, ?hy59⟩) hH ?rest59
    case hy59 => (intro w hSw; (try dsimp only at hSw); go_simp; try with_reducible rfl)
    try simp only [Act.put, List.setIfInBounds_toArray, List.set_cons_zero, List.set_cons_succ, List.getElem_toArray, List.getElem_cons_zero, List.getElem_cons_succ]
    refine wpAnyH_take (i := 20) (v := ?v60) rfl (by kernel_rfl) (by kernel_rfl) (by kernel_rfl) (fun _ _ _ h => h) (Or.inl ⟨by rfl, ?hy60⟩) hH ?rest60
    case hy60 => (intro w hSw; (try dsimp only at hSw); go_simp; try with_reducible rfl)
    try simp only [Act.put, List.setIfInBounds_toArray, List.set_cons_zero, List.set_cons_succ, List.getElem_toArray, List.getElem_cons_zero, List.getElem_cons_succ]
    refine wpAnyH_take (i := 21) (v := ?v61) rfl (by kernel_rfl) (by kernel_rfl) (by kernel_rfl) (fun _ _ _ h => h) (Or.inl ⟨by rfl, ?hy61⟩) hH ?rest61
    case hy61 => (intro w hSw; (try dsimp only at hSw); go_simp; try with_reducible rfl)
    try simp only [Act.put, List.setIfInBounds_toArray, List.set_cons_zero, List.set_cons_succ, List.getElem_toArray, List.getElem_cons_zero, List.getElem_cons_succ]
    refine wpAnyH_take (i := 22) (v := ?v62) rfl (by kernel_rfl) (by kernel_rfl) (by kernel_rfl) (fun _ _ _ h => h) (Or.inl ⟨by rfl, ?hy62⟩) hH ?rest62
    case hy62 => (intro w hSw; (try dsimp only at hSw); go_simp; try with_reducible rfl)
    try simp only [Act.put, List.setIfInBounds_toArray, List.set_cons_zero, List.set_cons_succ, List.getElem_toArray, List.getElem_cons_zero, List.getElem_cons_succ]
    refine wpAnyH_take (i := 23) (v := undef) rfl (by kernel_rfl) (by kernel_rfl) (by kernel_rfl) (fun _ _ _ h => h) (Or.inr ⟨by rfl, rfl⟩) hH ?rest63
    try simp only [Act.put, List.setIfInBounds_toArray, List.set_cons_zero, List.set_cons_succ, List.getElem_toArray, List.getElem_cons_zero, List.getElem_cons_succ]
    refine wpAnyH_take (i := 24) (v := undef) rfl (by kernel_rfl) (by kernel_rfl) (by kernel_rfl) (fun _ _ _ h => h) (Or.inr ⟨by rfl, rfl⟩) hH ?rest64
    try simp only [Act.put, List.setIfInBounds_toArray, List.set_cons_zero, List.set_cons_succ, List.getElem_toArray, List.getElem_cons_zero, List.getElem_cons_succ]
    refine wpAnyH_take (i := 26) (v := undef) rfl (by kernel_rfl) (by kernel_rfl) (by kernel_rfl) (fun _ _ _ h => h) (Or.inr ⟨by rfl, rfl⟩) hH ?rest65
    try simp only [Act.put, List.setIfInBounds_toArray, List.set_cons_zero, List.set_cons_succ, List.getElem_toArray, List.getElem_cons_zero, List.getElem_cons_succ]
    refine wpAnyH_take (i := 27) (v := undef) rfl (by kernel_rfl) (by kernel_rfl) (by kernel_rfl) (fun _ _ _ h => h) (Or.inr ⟨by rfl, rfl⟩) hH ?rest66
    try simp only [Act.put, List.setIfInBounds_toArray, List.set_cons_zero, List.set_cons_succ, List.getElem_toArray, List.getElem_cons_zero, List.getElem_cons_succ]
    refine wpAnyH_take (i := 25) (v := undef) rfl (by kernel_rfl) (by kernel_rfl) (by kernel_rfl) (fun _ _ _ h => h) (Or.inr ⟨by rfl, rfl⟩) hH ?rest67
    try simp only [Act.put, List.setIfInBounds_toArray, List.set_cons_zero, List.set_cons_succ, List.getElem_toArray, List.getElem_cons_zero, List.getElem_cons_succ]
    refine wpAnyH_take (i := 28) (v := undef) rfl (by kernel_rfl) (by kernel_rfl) (by kernel_rfl) (fun _ _ _ h => h) (Or.inr ⟨by rfl, rfl⟩) hH ?rest68
    try simp only [Act.put, List.setIfInBounds_toArray, List.set_cons_zero, List.set_cons_succ, List.getElem_toArray, List.getElem_cons_zero, List.getElem_cons_succ]
    refine wpAnyH_take (i := 29) (v := undef) rfl (by kernel_rfl) (by kernel_rfl) (by kernel_rfl) (fun _ _ _ h => h) (Or.inr ⟨by rfl, rfl⟩) hH ?rest69
    try simp only [Act.put, List.setIfInBounds_toArray, List.set_cons_zero, List.set_cons_succ, List.getElem_toArray, List.getElem_cons_zero, List.getElem_cons_succ]
    refine wpAnyH_take (i := 30) (v := ?v70) rfl (by kernel_rfl) (by kernel_rfl) (by kernel_rfl) (fun _ _ _ h => h) (Or.inl ⟨by rfl, ?hy70⟩) hH ?rest70
    case hy70 => (intro w hSw; (try dsimp only at hSw); go_simp; try with_reducible rfl)
    try simp only [Act.put, List.setIfInBounds_toArray, List.set_cons_zero, List.set_cons_succ, List.getElem_toArray, List.getElem_cons_zero, List.getElem_cons_succ]
    refine wpAnyH_take (i := 31) (v := ?v71) rfl (by kernel_rfl) (by kernel_rfl) (by kernel_rfl) (fun _ _ _ h => h) (Or.inl ⟨by rfl, ?hy71⟩) hH ?rest71
    case hy71 => (intro w hSw; (try dsimp only at hSw); go_simp; try with_reducible rfl)
    try simp only [Act.put, List.setIfInBounds_toArray, List.set_cons_zero, List.set_cons_succ, List.getElem_toArray, List.getElem_cons_zero, List.getElem_cons_succ]
    refine wpAnyH_take (i := 32) (v := ?v72) rfl (by kernel_rfl) (by kernel_rfl) (by kernel_rfl) (fun _ _ _ h => h) (Or.inl ⟨by rfl, ?hy72⟩) hH ?rest72
    case hy72 => (intro w hSw; (try dsimp only at hSw); go_simp; try with_reducible rfl)
    try simp only [Act.put, List.setIfInBounds_toArray, List.set_cons_zero, List.set_cons_succ, List.getElem_toArray, List.getElem_cons_zero, List.getElem_cons_succ]
    refine wpAnyH_done (by kernel_rfl) ?_ _
    have BF := BE.trans (hH.mono BE.size)
    go_wp2
    go_ret
    exact ⟨rfl, BF⟩
  · have he' : (a2 == a1) = false := by rw [beq_eq_false_iff_ne]; exact he
    have HN2 := HN he
    clear HN
    have GHN2 : ∀ V, Below w6.heap.size w6 V → Hid (Calls Try.prog 18 #[.agg #[.int .i64 a0, .int .i64 o0, .slice A2 l1.length c2], .int .i64 a2] V (BoolPost V q)) := fun V hV => HN2 _ _ V hc2 (SC1.up hV)
    clear HN2 HI HQ C0 C1 C3 SC0 SC1 SC3
    go_wp2_with fail
    refine wp_region_held_drew (S := fun v => Below w6.heap.size w6 v) (by kernel_rfl) BD.out (fun hH => ?_)
    refine wpAnyH_take (i := 0) (v := ?v73) rfl (by kernel_rfl) (by kernel_rfl) (by kernel_rfl) (fun _ _ _ h => h) (Or.inl ⟨by rfl, ?hy73⟩) hH ?rest73
    case hy73 => (intro w hSw; (try dsimp only at hSw); go_simp; try with_reducible rfl)
    try simp only [Act.put, List.setIfInBounds_toArray, List.set_cons_zero, List.set_cons_succ, List.getElem_toArray, List.getElem_cons_zero]
    refine wpAnyH_take (i := 1) (v := ?v74) rfl (by kernel_rfl) (by kernel_rfl) (by kernel_rfl) (fun _ _ _ h => h) (Or.inl ⟨by rfl, ?hy74⟩) hH ?rest74
    case hy74 => (intro w hSw; (try dsimp only at hSw); go_simp; try with_reducible rfl)
    try simp only [Act.put, List.setIfInBounds_toArray, List.set_cons_zero, List.set_cons_succ, List.getElem_toArray, List.getElem_cons_zero, List.getElem_cons_succ]
    refine wpAnyH_take (i := 2) (v := ?v75) rfl (by kernel_rfl) (by kernel_rfl) (by kernel_rfl) (fun _ _ _ h => h) (Or.inl ⟨by rfl, ?hy75⟩) hH ?rest75
    case hy75 => (intro w hSw; (try dsimp only at hSw); go_simp; try with_reducible rfl)
    try simp only [Act.put, List.setIfInBounds_toArray, List.set_cons_zero, List.set_cons_succ, List.getElem_toArray, List.getElem_cons_zero, List.getElem_cons_succ]
    refine wpAnyH_take (i := 3) (v := ?v76) rfl (by kernel_rfl) (by kernel_rfl) (by kernel_rfl) (fun _ _ _ h => h) (Or.inl ⟨by rfl, ?hy76⟩) hH ?rest76
    case hy76 => (intro w hSw; (try dsimp only at hSw); go_simp; try with_reducible rfl)
    try simp only [Act.put, List.setIfInBounds_toArray, List.set_cons_zero, List.set_cons_succ, List.getElem_toArray, List.getElem_cons_zero, List.getElem_cons_succ]
    refine wpAnyH_take (i := 4) (v := ?v77) rfl (by kernel_rfl) (by kernel_rfl) (by kernel_rfl) (fun _ _ _ h => h) (Or.inl ⟨by rfl, ?hy77⟩) hH ?rest77
    case hy77 => (intro w hSw; (try dsimp only at hSw); go_simp; try with_reducible rfl)
    try simp only [Act.put, List.setIfInBounds_toArray, List.set_cons_zero, List.set_cons_succ, List.getElem_toArray, List.getElem_cons_zero, List.getElem_cons_succ]
    refine wpAnyH_take (i := 5) (v := ?v78) rfl (by kernel_rfl) (by kernel_rfl) (by kernel_rfl) (fun _ _ _ h => h) (Or.inl ⟨by rfl, ?hy78⟩) hH ?rest78
    case hy78 => (intro w hSw; (try dsimp only at hSw); go_simp; try with_reducible rfl)
    try simp only [Act.put, List.setIfInBounds_toArray, List.set_cons_zero, List.set_cons_succ, List.getElem_toArray, List.getElem_cons_zero, List.getElem_cons_succ]
    refine wpAnyH_take (i := 6) (v := ?v79) rfl (by kernel_rfl) (by kernel_rfl) (by kernel_rfl) (fun _ _ _ h => h) (Or.inl ⟨by rfl, ?hy79⟩) hH ?rest79
    case hy79 => (intro w hSw; (try dsimp only at hSw); go_simp; try with_reducible rfl)
    try simp only [Act.put, List.setIfInBounds_toArray, List.set_cons_zero, List.set_cons_succ, List.getElem_toArray, List.getElem_cons_zero, List.getElem_cons_succ]
    refine wpAnyH_take (i := 7) (v := ?v80) rfl (by kernel_rfl) (by kernel_rfl) (by kernel_rfl) (fun _ _ _ h => h) (Or.inl ⟨by rfl, ?hy80⟩) hH ?rest80
    case hy80 => (intro w hSw; (try dsimp only at hSw); go_simp; try with_reducible rfl)
    try simp only [Act.put, List.setIfInBounds_toArray, List.set_cons_zero, List.set_cons_succ, List.getElem_toArray, List.getElem_cons_zero, List.getElem_cons_succ]
    refine wpAnyH_take (i := 8) (v := ?v81) rfl (by kernel_rfl) (by kernel_rfl) (by kernel_rfl) (fun _ _ _ h => h) (Or.inl ⟨by rfl, ?hy81⟩) hH ?rest81
    case hy81 => (intro w hSw; (try dsimp only at hSw); go_simp; try with_reducible rfl)
    try simp only [Act.put, List.setIfInBounds_toArray, List.set_cons_zero, List.set_cons_succ, List.getElem_toArray, List.getElem_cons_zero, List.getElem_cons_succ]
    refine wpAnyH_take (i := 9) (v := ?v82) rfl (by kernel_rfl) (by kernel_rfl) (by kernel_rfl) (fun _ _ _ h => h) (Or.inl ⟨by rfl, ?hy82⟩) hH ?rest82
    case hy82 => (intro w hSw; (try dsimp only at hSw); go_simp; try with_reducible rfl)
    try simp only [Act.put, List.setIfInBounds_toArray, List.set_cons_zero, List.set_cons_succ, List.getElem_toArray, List.getElem_cons_zero, List.getElem_cons_succ]
    refine wpAnyH_take (i := 10) (v := ?v83) rfl (by kernel_rfl) (by kernel_rfl) (by kernel_rfl) (fun _ _ _ h => h) (Or.inl ⟨by rfl, ?hy83⟩) hH ?rest83
    case hy83 => (intro w hSw; (try dsimp only at hSw); go_simp; try with_reducible rfl)
    try simp only [Act.put, List.setIfInBounds_toArray, List.set_cons_zero, List.set_cons_succ, List.getElem_toArray, List.getElem_cons_zero, List.getElem_cons_succ]
    refine wpAnyH_take (i := 11) (v := ?v84) rfl (by kernel_rfl) (by kernel_rfl) (by kernel_rfl) (fun _ _ _ h => h) (Or.inl ⟨by rfl, ?hy84⟩) hH ?rest84
    case hy84 => (intro w hSw; (try dsimp only at hSw); go_simp; try with_reducible rfl)
    try simp only [Act.put, List.setIfInBounds_toArray, List.set_cons_zero, List.set_cons_succ, List.getElem_toArray, List.getElem_cons_zero, List.getElem_cons_succ]
    refine wpAnyH_take (i := 12) (v := ?v85) rfl (by kernel_rfl) (by kernel_rfl) (by kernel_rfl) (fun _ _ _ h => h) (Or.inl ⟨by rfl, ?hy85⟩) hH ?rest85
    case hy85 => (intro w hSw; (try dsimp only at hSw); go_simp; try with_reducible rfl)
    try simp only [Act.put, List.setIfInBounds_toArray, List.set_cons_zero, List.set_cons_succ, List.getElem_toArray, List.getElem_cons_zero, List.getElem_cons_succ]
    refine wpAnyH_take (i := 13) (v := ?v86) rfl (by kernel_rfl) (by kernel_rfl) (by kernel_rfl) (fun _ _ _ h => h) (Or.inl ⟨by rfl, ?hy86⟩) hH ?rest86
    case hy86 => (intro w hSw; (try dsimp only at hSw); go_simp; try with_reducible rfl)
    try simp only [Act.put, List.setIfInBounds_toArray, List.set_cons_zero, List.set_cons_succ, List.getElem_toArray, List.getElem_cons_zero, List.getElem_cons_succ]
    refine wpAnyH_take (i := 14) (v := ?v87) rfl (by kernel_rfl) (by kernel_rfl) (by kernel_rfl) (fun _ _ _ h => h) (Or.inl ⟨by rfl, ?hy87⟩) hH ?rest87
    case hy87 => (intro w hSw; (try dsimp only at hSw); obtain ⟨⟨fC10, fC11, fC12⟩, ⟨fC00, fC01, fC02⟩⟩ := SB.out w hSw; go_simp; try with_reducible rfl)
    try simp only [Act.put, List.setIfInBounds_toArray, List.set_cons_zero, List.set_cons_succ, List.getElem_toArray, List.getElem_cons_zero, List.getElem_cons_succ]
    refine wpAnyH_take (i := 15) (v := ?v88) rfl (by kernel_rfl) (by kernel_rfl) (by kernel_rfl) (fun _ _ _ h => h) (Or.inl ⟨by rfl, ?hy88⟩) hH ?rest88
    case hy88 => (intro w hSw; (try dsimp only at hSw); go_simp; try with_reducible rfl)
    try simp only [Act.put, List.setIfInBounds_toArray, List.set_cons_zero, List.set_cons_succ, List.getElem_toArray, List.getElem_cons_zero, List.getElem_cons_succ]
    refine wpAnyH_ready (rs := [16]) (by kernel_rfl) (by simp) ?_
    refine AllReadyH.cons rfl (fun K hK => ?_) AllReadyH.nil
    go_simp
    go_at_call 18
    with_reducible refine (GHI _ hH).out.mono ?_
    rintro e wq89 ⟨rfl, bq89⟩
    go_wp2_with fail
    refine hK.out _ _ (hH.trans (bq89.mono hH.size)) (fun hH2 => ?_)
    clear hK K hH
    have hH := hH2
    clear hH2
    try simp only [Act.put, List.setIfInBounds_toArray, List.set_cons_zero, List.set_cons_succ, List.getElem_toArray, List.getElem_cons_zero, List.getElem_cons_succ]
    refine wpAnyH_take (i := 17) (v := ?v90) rfl (by kernel_rfl) (by kernel_rfl) (by kernel_rfl) (fun _ _ _ h => h) (Or.inl ⟨by rfl, ?hy90⟩) hH ?rest90
    case hy90 => (intro w hSw; (try dsimp only at hSw); go_simp; try with_reducible rfl)
    try simp only [Act.put, List.setIfInBounds_toArray, List.set_cons_zero, List.set_cons_succ, List.getElem_toArray, List.getElem_cons_zero, List.getElem_cons_succ]
    refine wpAnyH_take (i := 18) (v := ?v91) rfl (by kernel_rfl) (by kernel_rfl) (by kernel_rfl) (fun _ _ _ h => h) (Or.inl ⟨by rfl, ?hy91⟩) hH ?rest91
    case hy91 => (intro w hSw; (try dsimp only at hSw); go_simp; try with_reducible rfl)
    try simp only [Act.put, List.setIfInBounds_toArray, List.set_cons_zero, List.set_cons_succ, List.getElem_toArray, List.getElem_cons_zero, List.getElem_cons_succ]
    refine wpAnyH_take (i := 19) (v := ?v92) rfl (by kernel_rfl) (by kernel_rfl) (by kernel_rfl) (fun _ _ _ h => h) (Or.inl ⟨by rfl, ?hy92⟩) hH ?rest92
    case hy92 => (intro w hSw; (try dsimp only at hSw); go_simp; try with_reducible rfl)
    try simp only [Act.put, List.setIfInBounds_toArray, List.set_cons_zero, List.set_cons_succ, List.getElem_toArray, List.getElem_cons_zero, List.getElem_cons_succ]
    refine wpAnyH_take (i := 20) (v := ?v93) rfl (by kernel_rfl) (by kernel_rfl) (by kernel_rfl) (fun _ _ _ h => h) (Or.inl ⟨by rfl, ?hy93⟩) hH ?rest93
    case hy93 => (intro w hSw; (try dsimp only at hSw); go_simp; try with_reducible rfl)
    try simp only [Act.put, List.setIfInBounds_toArray, List.set_cons_zero, List.set_cons_succ, List.getElem_toArray, List.getElem_cons_zero, List.getElem_cons_succ]
    refine wpAnyH_take (i := 21) (v := ?v94) rfl (by kernel_rfl) (by kernel_rfl) (by kernel_rfl) (fun _ _ _ h => h) (Or.inl ⟨by rfl, ?hy94⟩) hH ?rest94
    case hy94 => (intro w hSw; (try dsimp only at hSw); go_simp; try with_reducible rfl)
    try simp only [Act.put, List.setIfInBounds_toArray, List.set_cons_zero, List.set_cons_succ, List.getElem_toArray, List.getElem_cons_zero, List.getElem_cons_succ]
    refine wpAnyH_take (i := 22) (v := ?v95) rfl (by kernel_rfl) (by kernel_rfl) (by kernel_rfl) (fun _ _ _ h => h) (Or.inl ⟨by rfl, ?hy95⟩) hH ?rest95
    case hy95 => (intro w hSw; (try dsimp only at hSw); go_simp; try with_reducible rfl)
    try simp only [Act.put, List.setIfInBounds_toArray, List.set_cons_zero, List.set_cons_succ, List.getElem_toArray, List.getElem_cons_zero, List.getElem_cons_succ]
    refine wpAnyH_take (i := 23) (v := ?v96) rfl (by kernel_rfl) (by kernel_rfl) (by kernel_rfl) (fun _ _ _ h => h) (Or.inl ⟨by rfl, ?hy96⟩) hH ?rest96
    case hy96 => (intro w hSw; (try dsimp only at hSw); obtain ⟨⟨fC10, fC11, fC12⟩, ⟨fC00, fC01, fC02⟩⟩ := SB.out w hSw; go_simp; try with_reducible rfl)
    try simp only [Act.put, List.setIfInBounds_toArray, List.set_cons_zero, List.set_cons_succ, List.getElem_toArray, List.getElem_cons_zero, List.getElem_cons_succ]
    refine wpAnyH_take (i := 24) (v := ?v97) rfl (by kernel_rfl) (by kernel_rfl) (by kernel_rfl) (fun _ _ _ h => h) (Or.inl ⟨by rfl, ?hy97⟩) hH ?rest97
    case hy97 => (intro w hSw; (try dsimp only at hSw); go_simp; try with_reducible rfl)
    try simp only [Act.put, List.setIfInBounds_toArray, List.set_cons_zero, List.set_cons_succ, List.getElem_toArray, List.getElem_cons_zero, List.getElem_cons_succ]
    refine wpAnyH_take (i := 26) (v := ?v98) rfl (by kernel_rfl) (by kernel_rfl) (by kernel_rfl) (fun _ _ _ h => h) (Or.inl ⟨by rfl, ?hy98⟩) hH ?rest98
    case hy98 => (intro w hSw; (try dsimp only at hSw); obtain ⟨⟨fC10, fC11, fC12⟩, ⟨fC00, fC01, fC02⟩⟩ := SB.out w hSw; go_simp; try with_reducible rfl)
    try simp only [Act.put, List.setIfInBounds_toArray, List.set_cons_zero, List.set_cons_succ, List.getElem_toArray, List.getElem_cons_zero, List.getElem_cons_succ]
    refine wpAnyH_take (i := 27) (v := ?v99) rfl (by kernel_rfl) (by kernel_rfl) (by kernel_rfl) (fun _ _ _ h => h) (Or.inl ⟨by rfl, ?hy99⟩) hH ?rest99
    case hy99 => (intro w hSw; (try dsimp only at hSw); go_simp; try with_reducible rfl)
    try simp only [Act.put, List.setIfInBounds_toArray, List.set_cons_zero, List.set_cons_succ, List.getElem_toArray, List.getElem_cons_zero, List.getElem_cons_succ]
    refine wpAnyH_ready (rs := [25]) (by kernel_rfl) (by simp) ?_
    refine AllReadyH.cons rfl (fun K hK => ?_) AllReadyH.nil
    go_simp
    go_at_call 18
    with_reducible refine (GHN2 _ hH).out.mono ?_
    rintro e wq100 ⟨rfl, bq100⟩
    go_wp2_with fail
    refine hK.out _ _ (hH.trans (bq100.mono hH.size)) (fun hH2 => ?_)
    clear hK K hH
    have hH := hH2
    clear hH2
    try simp only [Act.put, List.setIfInBounds_toArray, List.set_cons_zero, List.set_cons_succ, List.getElem_toArray, List.getElem_cons_zero, List.getElem_cons_succ]
    refine wpAnyH_ready (rs := [28]) (by kernel_rfl) (by simp) ?_
    refine AllReadyH.cons rfl (fun K hK => ?_) AllReadyH.nil
    go_simp
    go_at_call 18
    with_reducible refine (GHQ _ hH).out.mono ?_
    rintro e wq101 ⟨rfl, bq101⟩
    go_wp2_with fail
    refine hK.out _ _ (hH.trans (bq101.mono hH.size)) (fun hH2 => ?_)
    clear hK K hH
    have hH := hH2
    clear hH2
    try simp only [Act.put, List.setIfInBounds_toArray, List.set_cons_zero, List.set_cons_succ, List.getElem_toArray, List.getElem_cons_zero, List.getElem_cons_succ]
    refine wpAnyH_take (i := 29) (v := ?v102) rfl (by kernel_rfl) (by kernel_rfl) (by kernel_rfl) (fun _ _ _ h => h) (Or.inl ⟨by rfl, ?hy102⟩) hH ?rest102
    case hy102 => (intro w hSw; (try dsimp only at hSw); go_simp; try with_reducible rfl)
    try simp only [Act.put, List.setIfInBounds_toArray, List.set_cons_zero, List.set_cons_succ, List.getElem_toArray, List.getElem_cons_zero, List.getElem_cons_succ]
    refine wpAnyH_take (i := 30) (v := ?v103) rfl (by kernel_rfl) (by kernel_rfl) (by kernel_rfl) (fun _ _ _ h => h) (Or.inl ⟨by rfl, ?hy103⟩) hH ?rest103
    case hy103 => (intro w hSw; (try dsimp only at hSw); go_simp; try with_reducible rfl)
    try simp only [Act.put, List.setIfInBounds_toArray, List.set_cons_zero, List.set_cons_succ, List.getElem_toArray, List.getElem_cons_zero, List.getElem_cons_succ]
    refine wpAnyH_take (i := 31) (v := ?v104) rfl (by kernel_rfl) (by kernel_rfl) (by kernel_rfl) (fun _ _ _ h => h) (Or.inl ⟨by rfl, ?hy104⟩) hH ?rest104
    case hy104 => (intro w hSw; (try dsimp only at hSw); go_simp; try with_reducible rfl)
    try simp only [Act.put, List.setIfInBounds_toArray, List.set_cons_zero, List.set_cons_succ, List.getElem_toArray, List.getElem_cons_zero, List.getElem_cons_succ]
    refine wpAnyH_take (i := 32) (v := ?v105) rfl (by kernel_rfl) (by kernel_rfl) (by kernel_rfl) (fun _ _ _ h => h) (Or.inl ⟨by rfl, ?hy105⟩) hH ?rest105
    case hy105 => (intro w hSw; (try dsimp only at hSw); go_simp; try with_reducible rfl)
    try simp only [Act.put, List.setIfInBounds_toArray, List.set_cons_zero, List.set_cons_succ, List.getElem_toArray, List.getElem_cons_zero, List.getElem_cons_succ]
    refine wpAnyH_done (by kernel_rfl) ?_ _
    have BF := BE.trans (hH.mono BE.size)
    go_wp2
    go_ret
    exact ⟨rfl, BF⟩

theorem walk (a0 o0 : Int) (A0 : Option Addr) (c0 : Nat) (l0 : List Int) (a1 a2 : Int) (w : World) (s0 : Sl w w.heap.size .i64 A0 l0) (m0 : l0.length ≤ c0) : Calls Try.prog 5 #[.agg #[.int .i64 a0, .int .i64 o0, .slice A0 l0.length c0], .int .i64 a1, .int .i64 a2] w (UpPost w) := by
  by_cases hl : (100 : Int) < (l0.length : Int)
  · exact long a0 o0 A0 c0 l0 a1 a2 w s0 m0 hl
  have HJ : ∀ A c W, l0.length ≤ c → Sl W W.heap.size .i64 A l0 → Hid (Calls Try.prog 9 #[.agg #[.int .i64 a0, .int .i64 o0, .slice A l0.length c], .int .i64 a1] W (ChPost W (joins ⟨a0, o0, l0⟩ a1))) := fun A c W hc h => join_any a0 o0 A c l0 a1 W (by omega) hc h
  by_cases h0 : (joins ⟨a0, o0, l0⟩ a1).2 = 0
  · rcases hj : joins ⟨a0, o0, l0⟩ a1 with ⟨x, e⟩
    rw [hj] at h0
    have h0' : e = 0 := h0
    subst h0'
    have hb := back hj
    have hbo := back_owner hj
    obtain ⟨g1, g2, g3, g4, rfl, g6⟩ := joins_may hj
    have g3' : a1 ∉ l0 := g3
    have g4' : l0.length < 16 := g4
    have g7 : l0.length ≤ 16 := by omega
    have hbo' : o0 ≠ a1 := hbo
    rw [if_neg hbo] at hb
    have gl : (ins a1 l0).length = l0.length + 1 := ins_len a1 l0
    have hin : a1 ∈ ins a1 l0 := ins_mem.2 (.inl rfl)
    have ek : joins ⟨a0, o0, ins a1 l0⟩ a1 = (⟨0, 0, []⟩, 6) := by unfold joins; rw [if_neg (fun q => q ⟨g6, g2⟩), if_pos hin]; rfl
    have em : leaves ⟨a0, o0, l0⟩ a1 = (⟨0, 0, []⟩, 5) := by unfold leaves; rw [if_neg (fun q => q g1), if_pos g3]; rfl
    refine yes a0 o0 A0 c0 l0 a1 a2 w s0 m0 hl 0 0 0 0 (ins a1 l0) [] [] (decide (a2 ∈ l0)) (fun A c W hc h => cho' (HJ A c W hc h).out hj rfl)
      (fun A c W hc h => cho' (join_any a0 o0 A c (ins a1 l0) a1 W (by omega) hc h) ek rfl)
      (fun A c W hc h => cho' (leave_any a0 o0 A c (ins a1 l0) a1 W (by omega) hc h) hb rfl)
      (fun A c W hc h => cho' (leave_any a0 o0 A c l0 a1 W (by omega) hc h) em rfl) ?_ ?_ ?_ ?_
    · intro A A2 c c2 W h h2
      have := same_any a0 o0 a0 o0 A A2 c c2 l0 l0 W (by omega) (by omega) h h2; rw [sm_self] at this; exact this
    · intro A c W hc h
      have := in_any a0 o0 A c (ins a1 l0) a1 W (by omega) h
      rw [mb_iff.2 g6, decide_eq_true hin] at this
      exact this
    · intro hne A c W hc h
      have := in_any a0 o0 A c (ins a1 l0) a2 W (by omega) h
      rw [mb_iff.2 g6, Bool.true_and, show decide (a2 ∈ ins a1 l0) = decide (a2 ∈ l0) from decide_eq_decide.2 (ins_mem.trans ⟨fun q => q.elim (fun q => absurd q hne) id, .inr⟩)] at this
      exact this
    · intro A c W hc h
      have := in_any a0 o0 A c l0 a2 W (by omega) h
      rw [mb_iff.2 g1, Bool.true_and] at this
      exact this
  · have hz := joins_none h0
    rcases hj : joins ⟨a0, o0, l0⟩ a1 with ⟨x, e⟩
    rw [hj] at h0 hz
    have hz' : x = ⟨0, 0, []⟩ := hz
    have h0' : e ≠ 0 := h0
    subst hz'
    exact no a0 o0 A0 c0 l0 a1 a2 w s0 m0 hl 0 0 (e : Int) [] (by rw [beq_eq_false_iff_ne]; omega) (by decide) (fun A c W hc h => cho' (HJ A c W hc h).out hj rfl)

theorem own : ownKnob Try.prog.godebug = none := by kernel_rfl
theorem laidOut : laidOutB Try.prog = true := by kernel_rfl

set_option maxRecDepth 100000 in
theorem lifted (os : Os) (started : os.Started) (H : Type) (enc : TypeId × Value → H) :
    ReturnsInHanded {} Try.checked os 5 .any (Rows.peopleBackSpec.pre6 enc Try.prog Try.f5 Rows.peopleBackRow.domain false) (Rows.peopleBackSpec.post enc Try.prog Try.f5 false true false false) := by
  refine returnsInHanded_of_change (C := Try.checked) own started (by kernel_rfl) Try.func5
    (ChangeSpec.witness6 (enc := enc) (C := Try.checked) false ⟨#[], #[.agg #[.int .i64 0, .int .i64 0, .slice none 0 0], .int .i64 0, .int .i64 0], []⟩ 8 (by kernel_rfl) (by kernel_rfl) (by kernel_rfl) (by kernel_rfl)) ?_
  intro W base args ds gs before hval0 hW hcnd _
  have hval : ∀ (j : Nat) t v, Try.f5.params[j]? = some t → args[j]? = some v → Value.okWide Try.prog W .any base t v := hval0
  have hW' := hW
  obtain ⟨p, q, hA, hV, rfl, hfz, hnd⟩ := hW
  have hA : DataW.TrodAll enc Try.prog W 0 (fun _ => true) true Try.f5.params.toList args.toList ds p := hA
  rw [Try.params5] at hA hval
  obtain ⟨v0, vs0, d0, ds0, p0, q0, hargs, rfl, rfl, h0, r0⟩ := trodAll_cons hA
  obtain ⟨v1, vs1, d1, ds1, p1, q1, rfl, rfl, rfl, h1, r1⟩ := trodAll_cons r0
  obtain ⟨v2, vs2, d2, ds2, p2, q2, rfl, rfl, rfl, h2, r2⟩ := trodAll_cons r1
  obtain ⟨rfl, rfl, rfl⟩ := trodAll_nil r2
  obtain rfl : args = #[v0, v1, v2] := by cases args; simp_all
  obtain ⟨rfl, rfl⟩ := trodVars_none hV
  have k0 := h0
  have lt0 : ∀ x ∈ p0, x.block < W.heap.size := by obtain ⟨m, hm⟩ := k0; exact DataW.trod_lt m _ _ _ hm
  obtain ⟨a0, o0, A0, c0, l0, rfl, s0, m0⟩ := open_ch (hval 0 24 v0 rfl rfl) h0
  obtain ⟨a1, rfl, rfl, rfl, w1⟩ := open_int Try.underlying3 (hval 1 3 v1 rfl rfl) h1
  obtain ⟨a2, rfl, rfl, rfl, w2⟩ := open_int Try.underlying3 (hval 2 3 v2 rfl rfl) h2
  clear hval0
  refine (walk a0 o0 A0 c0 l0 a1 a2 W s0 m0  ).mono fun e W' ⟨he, bel⟩ => ?_
  subst he
  exact ⟨_, rfl, _, _, _, [], _, [], hW', trodAll_mk1 (shut_bool Try.underlying4 _), (trodAll_cons_mk (Below.trod laidOut (by kernel_rfl) (of_decide_eq_true (by kernel_rfl)) k0 bel lt0) (trodAll_cons_mk (shut_int Try.underlying3 w1) (trodAll_cons_mk (shut_int Try.underlying3 w2) trodAll_mk0))), rfl, bel.frame _, fun h => by cases h⟩

theorem over : Rows.peopleBackRow.holds Try.pinned (OpenSpec.ofChange Rows.peopleBackSpec) :=
  OpenClaim.holds_of_wide 5 Try.f5 rfl rfl rfl rfl rfl rfl rfl ⟨rfl, rfl, rfl, rfl, rfl⟩ rfl rfl rfl rfl rfl (by kernel_rfl) Try.func5 (by kernel_rfl)
    (of_decide_eq_true (by kernel_rfl)) (by unfold Func.isWrapper; first | (rw [if_pos (by decide +kernel)]; kernel_rfl) | (rw [if_neg (by decide +kernel)]; exact ⟨rfl, rfl⟩))
    (fun os started H enc _ => lifted os started H enc)

theorem proved : Rows.PeopleBackSaid := over
#print axioms proved
end Go.Proofs.Ytpelopfbdfnmeaa.peopleBack
