/-
  The walk of the statements' own first step ('Awake'): the chapter's examples come out as they should. No conditions.
-/
import Derived.Test.YtpelopfbdfnmeaaOpen
import Derived.Test.YtpelopfbdfnmeaaLe
import Derived.Test.YtpelopfbdfnmeaaOp
namespace Go.Proofs.Ytpelopfbdfnmeaa
open Go.RowKit
set_option linter.unusedVariables false

set_option maxHeartbeats 1000000 in
theorem awake_walk (w : World) (l1 l2 l3 l4 : List Int) (i3 o3 : Int) (h2 : ((l2.length : Int) == 2) = true) (h20 : (0 : Int) < (l2.length : Int)) (g2 : l2.getD 0 0 = 5) (h4 : ((l4.length : Int) == 1) = true)
    (H1 : ∀ W, Hid (Calls Try.prog 13 #[.int .i64 3, .int .i64 7] W (ChPo W 3 7 l1 0)))
    (H2 : ∀ A c W, l1.length ≤ c → Sl W W.heap.size .i64 A l1 → Hid (Calls Try.prog 9 #[.agg #[.int .i64 3, .int .i64 7, .slice A l1.length c], .int .i64 5] W (ChPo W 3 7 l2 0)))
    (H3 : ∀ A c W, l2.length ≤ c → Sl W W.heap.size .i64 A l2 → Hid (Calls Try.prog 11 #[.agg #[.int .i64 3, .int .i64 7, .slice A l2.length c], .int .i64 7] W (ChPo W i3 o3 l3 8)))
    (H4 : ∀ A c W, l2.length ≤ c → Sl W W.heap.size .i64 A l2 → Hid (Calls Try.prog 11 #[.agg #[.int .i64 3, .int .i64 7, .slice A l2.length c], .int .i64 5] W (ChPo W 3 7 l4 0)))
    (H5 : ∀ A c W, l2.length ≤ c → Sl W W.heap.size .i64 A l2 → Hid (Calls Try.prog 18 #[.agg #[.int .i64 3, .int .i64 7, .slice A l2.length c], .int .i64 7] W (BoolPost W true))) : Calls Try.prog 8 #[] w (UpPost w) := by
  have BE := Below.refl w.heap.size w
  go_enter Try.func8, Try.ntmps8
  go_wp2_with fail
  refine (H1 _).out.mono ?_
  rintro e w1 ⟨A1, c1, rfl, hc1, hf1, B1⟩
  replace BE := BE.trans (B1.mono BE.size)
  have BB1 := box_below w1 3 7 A1 l1.length c1
  replace BE := BE.trans (BB1.mono BE.size)
  have C1 := (cx_new w1 3 7 A1 l1.length c1).cb
  have SC1 := hf1.sl.up BB1
  clear H1
  clear hf1
  obtain ⟨pC10, pC11, pC12⟩ := id C1
  go_wp2_with fail
  clear pC10 pC11 pC12
  generalize w1.alloc (.cells #[.int .i64 3, .int .i64 7, .slice A1 l1.length c1] 24) = v1 at *
  refine (H2 _ _ _ hc1 SC1).out.mono ?_
  rintro e w2 ⟨A2, c2, rfl, hc2, hf2, B2⟩
  replace C1 := C1.on B2 C1.lt
  replace SC1 := SC1.up B2
  replace BE := BE.trans (B2.mono BE.size)
  have BB2 := box_below w2 3 7 A2 l2.length c2
  replace C1 := C1.on BB2 C1.lt
  replace SC1 := SC1.up BB2
  replace BE := BE.trans (BB2.mono BE.size)
  have C2 := (cx_new w2 3 7 A2 l2.length c2).cb
  have SC2 := hf2.sl.up BB2
  clear H2
  clear hf2
  obtain ⟨pC20, pC21, pC22⟩ := id C2
  go_wp2_with fail
  clear pC20 pC21 pC22
  generalize w2.alloc (.cells #[.int .i64 3, .int .i64 7, .slice A2 l2.length c2] 24) = v2 at *
  clear C1 SC1
  refine (H3 _ _ _ hc2 SC2).out.mono ?_
  rintro e w3 ⟨A3, c3, rfl, hc3, hf3, B3⟩
  replace C2 := C2.on B3 C2.lt
  replace SC2 := SC2.up B3
  replace BE := BE.trans (B3.mono BE.size)
  have BB3 := box_below w3 i3 o3 A3 l3.length c3
  replace C2 := C2.on BB3 C2.lt
  replace SC2 := SC2.up BB3
  replace BE := BE.trans (BB3.mono BE.size)
  have C3 := (cx_new w3 i3 o3 A3 l3.length c3).cb
  have SC3 := hf3.sl.up BB3
  clear H3
  clear hf3
  obtain ⟨pC20, pC21, pC22⟩ := id C2
  go_wp2_with fail
  clear pC20 pC21 pC22
  generalize w3.alloc (.cells #[.int .i64 i3, .int .i64 o3, .slice A3 l3.length c3] 24) = v3 at *
  clear C3 SC3
  obtain ⟨b, off, rfl, hb, hcell⟩ := SC2.at_ (j := 0) (by omega)
  rw [g2, Nat.add_zero] at hcell
  refine (H4 _ _ _ hc2 SC2).out.mono ?_
  rintro e w4 ⟨A4, c4, rfl, hc4, hf4, B4⟩
  replace C2 := C2.on B4 C2.lt
  replace SC2 := SC2.up B4
  replace BE := BE.trans (B4.mono BE.size)
  have BB4 := box_below w4 3 7 A4 l4.length c4
  replace C2 := C2.on BB4 C2.lt
  replace SC2 := SC2.up BB4
  replace BE := BE.trans (BB4.mono BE.size)
  have C4 := (cx_new w4 3 7 A4 l4.length c4).cb
  have SC4 := hf4.sl.up BB4
  clear H4
  clear hf4
  obtain ⟨b', off', e', hb', hcell'⟩ := SC2.at_ (j := 0) (by omega)
  cases e'
  rw [g2, Nat.add_zero] at hcell'
  obtain ⟨pC20, pC21, pC22⟩ := id C2
  obtain ⟨pC40, pC41, pC42⟩ := id C4
  go_wp2_with fail
  clear pC20 pC21 pC22 pC40 pC41 pC42
  generalize w4.alloc (.cells #[.int .i64 3, .int .i64 7, .slice A4 l4.length c4] 24) = v4 at *
  refine (H5 _ _ _ hc2 SC2).out.mono ?_
  rintro e w9 ⟨rfl, B9⟩
  go_wp2
  go_ret
  exact ⟨rfl, BE.trans (B9.mono BE.size)⟩

theorem awake_any (w : World) : Hid (Calls Try.prog 8 #[] w (UpPost w)) := by
  refine awake_walk w [7] [5, 7] [] [7] 0 0 (by decide) (by decide) rfl (by decide) (fun W => cho' (open_any 3 7 W) (by unfold opens; rw [if_pos (by decide)]) rfl)
    (fun A c W hc h => cho' (join_any 3 7 A c [7] 5 W (by decide) hc h) (by unfold joins; rw [if_neg (by decide), if_neg (by decide), if_neg (by decide)]; rfl) rfl)
    (fun A c W hc h => cho' (leave_any 3 7 A c [5, 7] 7 W (by decide) hc h) (by unfold leaves; rw [if_neg (by decide), if_neg (by decide), if_pos (by decide)]; rfl) rfl)
    (fun A c W hc h => cho' (leave_any 3 7 A c [5, 7] 5 W (by decide) hc h) (by unfold leaves; rw [if_neg (by decide), if_neg (by decide), if_neg (by decide)]; rfl) rfl) ?_
  intro A c W hc h
  have := in_any 3 7 A c [5, 7] 7 W (by decide) h
  rw [show (mb 3 7 [5, 7] && decide ((7 : Int) ∈ [5, 7])) = true by decide] at this
  exact this
end Go.Proofs.Ytpelopfbdfnmeaa
