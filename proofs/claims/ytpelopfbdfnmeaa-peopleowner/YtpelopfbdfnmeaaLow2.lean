/-
  Whoever joins and leaves, in whatever order, the channel may be, its owner is in it, and it stays the owner's: PeopleOwner answers true whatever the two numbers and the list; they read as they did. Conditions: none.
-/
import Derived.Test.YtpelopfbdfnmeaaLow
import Derived.Test.YtpelopfbdfnmeaaLe
import Derived.Test.YtpelopfbdfnmeaaOp
import Derived.Test.YtpelopfbdfnmeaaAwk
import Derived.Deep.RegionLaw
import Derived.Deep.Cut
import Derived.Deep.CutRange
namespace Go.Proofs.Ytpelopfbdfnmeaa.peopleOwner
open Go.ChangeShapes Go.WideShapes Go.ChangeAt Go.RowKit
set_option linter.unusedVariables false
set_option linter.unusedSimpArgs false

theorem no (a0 a1 : Int) (A2 : Option Addr) (c2 : Nat) (l2 : List Int) (w : World) (s2 : Sl w w.heap.size .i64 A2 l2) (m2 : l2.length ≤ c2) (i o e : Int) (l : List Int) (he : ¬ e = 0) (HO : ∀ W, Hid (Calls Try.prog 13 #[.int .i64 a0, .int .i64 a1] W (ChPo W i o l e))) : Calls Try.prog 4 #[.int .i64 a0, .int .i64 a1, .slice A2 l2.length c2] w (UpPost w) := by
  go_enter Try.func4, Try.ntmps4
  go_wp2_with fail
  refine (awake_any w).out.mono ?_
  rintro e w1 ⟨rfl, B1⟩
  go_wp2_with fail
  refine (HO _).out.mono ?_
  rintro e w2 ⟨A, c, rfl, hc, hf, B2⟩
  have BE := (B1.trans (B2.mono B1.size)).trans ((box_below w2 i o A l.length c).mono (B1.trans (B2.mono B1.size)).size)
  go_wp2
  go_ret
  exact ⟨rfl, BE⟩
theorem long (a0 a1 : Int) (A2 : Option Addr) (c2 : Nat) (l2 : List Int) (w : World) (s2 : Sl w w.heap.size .i64 A2 l2) (m2 : l2.length ≤ c2) (hl : (100 : Int) < (l2.length : Int)) (l : List Int) (HO : ∀ W, Hid (Calls Try.prog 13 #[.int .i64 a0, .int .i64 a1] W (ChPo W a0 a1 l 0))) : Calls Try.prog 4 #[.int .i64 a0, .int .i64 a1, .slice A2 l2.length c2] w (UpPost w) := by
  go_enter Try.func4, Try.ntmps4
  go_wp2_with fail
  refine (awake_any w).out.mono ?_
  rintro e w1 ⟨rfl, B1⟩
  go_wp2_with fail
  refine (HO _).out.mono ?_
  rintro e w2 ⟨A, c, rfl, hc, hf, B2⟩
  have BE := (B1.trans (B2.mono B1.size)).trans ((box_below w2 a0 a1 A l.length c).mono (B1.trans (B2.mono B1.size)).size)
  go_wp2
  go_ret
  exact ⟨rfl, BE⟩
theorem put_bel {w W : World} {Y : Nat} {v0 v1 v2 : Value} (hY : Y < w.heap.size) (h : Below w.heap.size w W) : Below Y w (((W.setCell ⟨Y, 0, none⟩ v0).setCell ⟨Y, 1, none⟩ v1).setCell ⟨Y, 2, none⟩ v2) := put_below Y (h.mono (by omega)) (Nat.le_refl _) _ _ _

set_option maxHeartbeats 8000000 in
theorem main (a0 a1 : Int) (A2 : Option Addr) (c2 : Nat) (l2 : List Int) (w : World) (s2 : Sl w w.heap.size .i64 A2 l2) (m2 : l2.length ≤ c2) (hl : ¬ (100 : Int) < (l2.length : Int)) (l0 : List Int) (hm0 : mb a0 a1 l0 = true) (HO : ∀ W, Hid (Calls Try.prog 13 #[.int .i64 a0, .int .i64 a1] W (ChPo W a0 a1 l0 0))) : Calls Try.prog 4 #[.int .i64 a0, .int .i64 a1, .slice A2 l2.length c2] w (UpPost w) := by
  go_enter Try.func4, Try.ntmps4
  go_wp2_with fail
  refine (awake_any w).out.mono ?_
  rintro e w1 ⟨rfl, B1⟩
  go_wp2_with fail
  refine (HO _).out.mono ?_
  rintro e w2 ⟨A, c, rfl, hc, hf, B2⟩
  have BB := B1.trans (B2.mono B1.size)
  have hX0 : w.heap.size ≤ w2.heap.size := BB.size
  have S0 : S8 w (w2.alloc (.cells #[.int .i64 a0, .int .i64 a1, .slice A l0.length c] 24)) w2.heap.size a0 a1 A c l0 := ⟨hX0, cx_new w2 a0 a1 A l0.length c, hc, fr_s2n hf _, hm0, BB.trans ((box_below w2 a0 a1 A l0.length c).mono hX0)⟩
  clear HO hf B1 B2 BB hm0
  go_wp2
  generalize w2.alloc (.cells #[.int .i64 a0, .int .i64 a1, .slice A l0.length c] 24) = W0 at *
  generalize w2.heap.size = X at *
  have HS0 := Lib.hid S0
  clear S0
  go_loopw [10] (fun i wr => ∃ (k : Nat) (A : Option Addr) (c : Nat) (l : List Int), k ≤ l2.length ∧ i = .int .i64 (k : Int) ∧ Hid (S8 w wr X a0 a1 A c l)) (fun i _ => l2.length - (intOf i).toNat)
  case atStart => exact ⟨0, _, _, _, by omega, rfl, HS0⟩
  case round =>
    clear HS0 hc
    obtain ⟨k, A, c, l, hk, rfl, HS⟩ := hrel
    by_cases hlt : k < l2.length
    · have hX1 := HS.out.2.1.lt
      have HX8 := Lib.hid hX1
      have BW := HS.out.2.2.2.2.2
      have hl16 : l.length ≤ 1000 := by have := (mb_iff.1 HS.out.2.2.2.2.1).2.1.2; have h2 : l.length ≤ 16 := this; omega
      have HLEN := Lib.hid hl16
      obtain ⟨b, off, rfl, hb, hcell⟩ := (s2.below BW).at_ hlt
      have HB := Lib.hid hb
      have hki : (k : Int) < (l2.length : Int) := by omega
      have HC := Lib.hid hcell
      have hbr : b < wr.heap.size := Nat.lt_of_lt_of_le hb BW.size
      generalize l2.getD k 0 = x at hcell HC
      have HJE := Lib.hid (@join_keeps a0 a1 x l)
      have HJ : ∀ V, Below wr.heap.size wr V → Hid (Calls Try.prog 9 #[.agg #[.int .i64 a0, .int .i64 a1, .slice A l.length c], .int .i64 x] V (ChPo V (joins ⟨a0, a1, l⟩ x).1.id (joins ⟨a0, a1, l⟩ x).1.ow (joins ⟨a0, a1, l⟩ x).1.l ((joins ⟨a0, a1, l⟩ x).2 : Int))) := fun V hV => cho (join_any a0 a1 A c l x V hl16 HS.out.2.2.1 (HS.out.on hV).2.2.2.1.sl)
      have SB : Hid (∀ v, Below wr.heap.size wr v → Cb v X a0 a1 A l.length c ∧ v.cell? ⟨b, off + k, none⟩ = some (.int .i64 x)) := Lib.hid (fun v g => ⟨HS.out.2.1.cb.on g hX1, (g.cell (p := ⟨b, off + k, none⟩) hbr).trans hcell⟩)
      have BD : Hid (Below wr.heap.size wr wr.drew) := (Below.refl _ _).drew
      have HLT : Hid (wr.heap.size < wr.heap.size + 1) := Lib.hid (Nat.lt_succ_self _)
      generalize joins ⟨a0, a1, l⟩ x = J at HJ HJE
      obtain ⟨⟨ji, jo, jl⟩, je⟩ := J
      simp only at HJ HJE
      clear hX1 BW hb hbr hcell
      go_upto_region 8 with fail
      go_cut [11, 12] from 32 to 85 (fun s11 s12 wx => ∃ (Y : Nat) (i o : Int) (A1 : Option Addr) (c1 : Nat) (l1 : List Int) (e : Int), s11 = .pointer (some ⟨Y, 0, none⟩) ∧ s12 = .int .i64 e ∧ Hid (Ow w wx X Y a0 a1 A c l i o A1 c1 l1 e))
      case first =>
        refine wp_region_held_drew (S := fun v => Below wr.heap.size wr v) (by kernel_rfl) BD.out (fun hH => ?_)
        refine wpAnyH_take (i := 0) (v := ?v1) rfl (by kernel_rfl) (by kernel_rfl) (by kernel_rfl) (fun _ _ _ h => h) (Or.inl ⟨by rfl, ?hy1⟩) hH ?rest1
        case hy1 => (intro w hSw; (try dsimp only at hSw); obtain ⟨⟨f0, f1, f2⟩, fx⟩ := SB.out w hSw; go_simp; try with_reducible rfl)
        try simp only [Act.put, List.setIfInBounds_toArray, List.set_cons_zero, List.set_cons_succ, List.getElem_toArray, List.getElem_cons_zero]
        refine wpAnyH_take (i := 1) (v := ?v2) rfl (by kernel_rfl) (by kernel_rfl) (by kernel_rfl) (fun _ _ _ h => h) (Or.inl ⟨by rfl, ?hy2⟩) hH ?rest2
        case hy2 => (intro w hSw; (try dsimp only at hSw); go_simp; try with_reducible rfl)
        try simp only [Act.put, List.setIfInBounds_toArray, List.set_cons_zero, List.set_cons_succ, List.getElem_toArray, List.getElem_cons_zero, List.getElem_cons_succ]
        refine wpAnyH_take (i := 2) (v := ?v3) rfl (by kernel_rfl) (by kernel_rfl) (by kernel_rfl) (fun _ _ _ h => h) (Or.inl ⟨by rfl, ?hy3⟩) hH ?rest3
        case hy3 => (intro w hSw; (try dsimp only at hSw); go_simp; try with_reducible rfl)
        try simp only [Act.put, List.setIfInBounds_toArray, List.set_cons_zero, List.set_cons_succ, List.getElem_toArray, List.getElem_cons_zero, List.getElem_cons_succ]
        refine wpAnyH_take (i := 3) (v := ?v4) rfl (by kernel_rfl) (by kernel_rfl) (by kernel_rfl) (fun _ _ _ h => h) (Or.inl ⟨by rfl, ?hy4⟩) hH ?rest4
        case hy4 => (intro w hSw; (try dsimp only at hSw); go_simp; try with_reducible rfl)
        try simp only [Act.put, List.setIfInBounds_toArray, List.set_cons_zero, List.set_cons_succ, List.getElem_toArray, List.getElem_cons_zero, List.getElem_cons_succ]
        refine wpAnyH_take (i := 4) (v := ?v5) rfl (by kernel_rfl) (by kernel_rfl) (by kernel_rfl) (fun _ _ _ h => h) (Or.inl ⟨by rfl, ?hy5⟩) hH ?rest5
        case hy5 => (intro w hSw; (try dsimp only at hSw); obtain ⟨⟨f0, f1, f2⟩, fx⟩ := SB.out w hSw; go_simp; try with_reducible rfl)
        try simp only [Act.put, List.setIfInBounds_toArray, List.set_cons_zero, List.set_cons_succ, List.getElem_toArray, List.getElem_cons_zero, List.getElem_cons_succ]
        refine wpAnyH_ready (rs := [5, 9]) (by kernel_rfl) (by simp) ?_
        refine AllReadyH.cons rfl (fun K hK => ?_) (AllReadyH.cons rfl (fun K hK => ?_) AllReadyH.nil)
        · skip
          go_simp
          go_at_call 9
          with_reducible refine (HJ _ hH).out.mono ?_
          rintro e wq ⟨A1, c1, rfl, hc1, hf1, hb1⟩
          go_wp2_with fail
          have hQ := hH.trans (hb1.mono hH.size)
          refine hK.out _ _ hQ (fun hH2 => ?_)
          clear hK K hH
          have hH := hH2
          clear hH2
          try simp only [Act.put, List.setIfInBounds_toArray, List.set_cons_zero, List.set_cons_succ, List.getElem_toArray, List.getElem_cons_zero, List.getElem_cons_succ]
          refine wpAnyH_take (i := 6) (v := ?v6) rfl (by kernel_rfl) (by kernel_rfl) (by kernel_rfl) (fun _ _ _ h => h) (Or.inl ⟨by rfl, ?hy6⟩) hH ?rest6
          case hy6 => (intro w hSw; (try dsimp only at hSw); go_simp; try with_reducible rfl)
          try simp only [Act.put, List.setIfInBounds_toArray, List.set_cons_zero, List.set_cons_succ, List.getElem_toArray, List.getElem_cons_zero, List.getElem_cons_succ]
          refine wpAnyH_take (i := 7) (v := ?v7) rfl (by kernel_rfl) (by kernel_rfl) (by kernel_rfl) (fun _ _ _ h => h) (Or.inl ⟨by rfl, ?hy7⟩) hH ?rest7
          case hy7 => (intro w hSw; (try dsimp only at hSw); go_simp; try with_reducible rfl)
          try simp only [Act.put, List.setIfInBounds_toArray, List.set_cons_zero, List.set_cons_succ, List.getElem_toArray, List.getElem_cons_zero, List.getElem_cons_succ]
          refine wpAnyH_take (i := 8) (v := ?v8) rfl (by kernel_rfl) (by kernel_rfl) (by kernel_rfl) (fun _ _ _ h => h) (Or.inl ⟨by rfl, ?hy8⟩) hH ?rest8
          case hy8 => (intro w hSw; (try dsimp only at hSw); go_simp; try with_reducible rfl)
          try simp only [Act.put, List.setIfInBounds_toArray, List.set_cons_zero, List.set_cons_succ, List.getElem_toArray, List.getElem_cons_zero, List.getElem_cons_succ]
          refine wpAnyH_ready (rs := [9]) (by kernel_rfl) (by simp) ?_
          refine AllReadyH.cons rfl (fun K hK => ?_) AllReadyH.nil
          have XN := cx_new wq 0 0 none 0 0
          have n0 := XN.free 0
          have n1 := XN.free 1
          have n2 := XN.free 2
          obtain ⟨k0, k1, k2⟩ := XN.cb
          go_simp
          refine hK.out _ _ (hQ.alloc hQ.size _) (fun hH2 => ?_)
          clear hK K hH
          have hH := hH2
          clear hH2
          try simp only [Act.put, List.setIfInBounds_toArray, List.set_cons_zero, List.set_cons_succ, List.getElem_toArray, List.getElem_cons_zero, List.getElem_cons_succ]
          refine wpAnyH_ready (rs := [10]) (by kernel_rfl) (by simp) ?_
          refine AllReadyH.cons rfl (fun K hK => ?_) AllReadyH.nil
          go_simp
          refine hK.out _ _ (hQ.alloc hQ.size _) (fun hH2 => ?_)
          clear hK K hH
          have hH := hH2
          clear hH2
          try simp only [Act.put, List.setIfInBounds_toArray, List.set_cons_zero, List.set_cons_succ, List.getElem_toArray, List.getElem_cons_zero, List.getElem_cons_succ]
          refine wpAnyH_take (i := 11) (v := ?v9) rfl (by kernel_rfl) (by kernel_rfl) (by kernel_rfl) (fun _ _ _ h => h) (Or.inl ⟨by rfl, ?hy9⟩) hH ?rest9
          case hy9 => (intro w hSw; (try dsimp only at hSw); go_simp; try with_reducible rfl)
          try simp only [Act.put, List.setIfInBounds_toArray, List.set_cons_zero, List.set_cons_succ, List.getElem_toArray, List.getElem_cons_zero, List.getElem_cons_succ]
          refine wpAnyH_done (by kernel_rfl) ?_ _
          go_wp2
          go_meet
          case rel => exact ⟨wq.heap.size, _, _, _, _, _, _, rfl, rfl, Lib.hid (ow_mk HS.out (hQ.alloc hQ.size _) (cx_new wq _ _ _ _ _) hQ.size (fr_s2a hf1 HX8.out ((Below.refl _ _).alloc (Nat.le_refl _) _)) hc1 HJE.out)⟩
        · skip
          have XN : Cx (wr.drew.alloc (.cells #[.int .i64 0, .int .i64 0, .slice none 0 0] 24)) wr.heap.size 0 0 none 0 0 := cx_new wr.drew 0 0 none 0 0
          go_simp
          refine hK.out _ _ (hH.alloc hH.size _) (fun hH2 => ?_)
          clear hK K hH
          have hH := hH2
          clear hH2
          try simp only [Act.put, List.setIfInBounds_toArray, List.set_cons_zero, List.set_cons_succ, List.getElem_toArray, List.getElem_cons_zero, List.getElem_cons_succ]
          refine wpAnyH_ready (rs := [5]) (by kernel_rfl) (by simp) ?_
          refine AllReadyH.cons rfl (fun K hK => ?_) AllReadyH.nil
          go_simp
          go_at_call 9
          with_reducible refine (HJ _ hH).out.mono ?_
          rintro e wq ⟨A1, c1, rfl, hc1, hf1, hb1⟩
          go_wp2_with fail
          have hQ := hH.trans (hb1.mono hH.size)
          refine hK.out _ _ hQ (fun hH2 => ?_)
          clear hK K hH
          have hH := hH2
          clear hH2
          try simp only [Act.put, List.setIfInBounds_toArray, List.set_cons_zero, List.set_cons_succ, List.getElem_toArray, List.getElem_cons_zero, List.getElem_cons_succ]
          refine wpAnyH_take (i := 6) (v := ?v10) rfl (by kernel_rfl) (by kernel_rfl) (by kernel_rfl) (fun _ _ _ h => h) (Or.inl ⟨by rfl, ?hy10⟩) hH ?rest10
          case hy10 => (intro w hSw; (try dsimp only at hSw); go_simp; try with_reducible rfl)
          try simp only [Act.put, List.setIfInBounds_toArray, List.set_cons_zero, List.set_cons_succ, List.getElem_toArray, List.getElem_cons_zero, List.getElem_cons_succ]
          refine wpAnyH_take (i := 7) (v := ?v11) rfl (by kernel_rfl) (by kernel_rfl) (by kernel_rfl) (fun _ _ _ h => h) (Or.inl ⟨by rfl, ?hy11⟩) hH ?rest11
          case hy11 => (intro w hSw; (try dsimp only at hSw); go_simp; try with_reducible rfl)
          try simp only [Act.put, List.setIfInBounds_toArray, List.set_cons_zero, List.set_cons_succ, List.getElem_toArray, List.getElem_cons_zero, List.getElem_cons_succ]
          refine wpAnyH_take (i := 8) (v := ?v12) rfl (by kernel_rfl) (by kernel_rfl) (by kernel_rfl) (fun _ _ _ h => h) (Or.inl ⟨by rfl, ?hy12⟩) hH ?rest12
          case hy12 => (intro w hSw; (try dsimp only at hSw); go_simp; try with_reducible rfl)
          try simp only [Act.put, List.setIfInBounds_toArray, List.set_cons_zero, List.set_cons_succ, List.getElem_toArray, List.getElem_cons_zero, List.getElem_cons_succ]
          refine wpAnyH_ready (rs := [10]) (by kernel_rfl) (by simp) ?_
          refine AllReadyH.cons rfl (fun K hK => ?_) AllReadyH.nil
          have XQ := XN.on hb1 XN.lt
          have n0 := XQ.free 0
          have n1 := XQ.free 1
          have n2 := XQ.free 2
          obtain ⟨k0, k1, k2⟩ := XQ.cb
          go_simp
          refine hK.out _ _ (put_below wr.heap.size hQ (Nat.le_refl _) _ _ _) (fun hH2 => ?_)
          clear hK K hH
          have hH := hH2
          clear hH2
          try simp only [Act.put, List.setIfInBounds_toArray, List.set_cons_zero, List.set_cons_succ, List.getElem_toArray, List.getElem_cons_zero, List.getElem_cons_succ]
          refine wpAnyH_take (i := 11) (v := ?v13) rfl (by kernel_rfl) (by kernel_rfl) (by kernel_rfl) (fun _ _ _ h => h) (Or.inl ⟨by rfl, ?hy13⟩) hH ?rest13
          case hy13 => (intro w hSw; (try dsimp only at hSw); go_simp; try with_reducible rfl)
          try simp only [Act.put, List.setIfInBounds_toArray, List.set_cons_zero, List.set_cons_succ, List.getElem_toArray, List.getElem_cons_zero, List.getElem_cons_succ]
          refine wpAnyH_done (by kernel_rfl) ?_ _
          go_wp2
          go_meet
          case rel => exact ⟨wr.heap.size, _, _, _, _, _, _, rfl, rfl, Lib.hid (ow_mk HS.out (put_below wr.heap.size hQ (Nat.le_refl _) _ _ _) (XQ.put _ _ _ _ _) (Nat.le_refl _) (fr_s2b ((((hf1.low (show wr.heap.size + 1 ≤ _ by simp)).set _ HLT.out _).set _ HLT.out _).set _ HLT.out _) (Nat.lt_succ_of_lt HX8.out) (Nat.lt_succ_self _)) hc1 HJE.out)⟩
      case rest =>
        clear HJ HJE SB BD HLT HX8
        obtain ⟨Y, i, o, A1, c1, l1, e, rfl, rfl, HW⟩ := hcut
        have hcell := ((HW.out.hb).cell (p := ⟨b, off + k, none⟩) HB.out).trans ((HS.out.2.2.2.2.2.cell (p := ⟨b, off + k, none⟩) HB.out).symm.trans HC.out)
        go_upto_if 51 with fail
        go_cut [11, 12] from 32 to 85 (fun s11 s12 wx => ∃ (Y : Nat) (i o : Int) (A1 : Option Addr) (c1 : Nat) (l1 : List Int) (e : Int), s11 = .pointer (some ⟨Y, 0, none⟩) ∧ s12 = .int .i64 e ∧ Hid (Ow w wx X Y a0 a1 A c l i o A1 c1 l1 e))
        case first =>
          by_cases hx : x < 0
          · have HLE : Hid (∀ y, ((leaves ⟨a0, a1, l⟩ y).2 : Int) = 0 → (leaves ⟨a0, a1, l⟩ y).1.id = a0 ∧ (leaves ⟨a0, a1, l⟩ y).1.ow = a1 ∧ mb a0 a1 (leaves ⟨a0, a1, l⟩ y).1.l = true) := Lib.hid (fun y => @leave_keeps a0 a1 y l)
            have HL : ∀ y V, Below wc.heap.size wc V → Hid (Calls Try.prog 11 #[.agg #[.int .i64 a0, .int .i64 a1, .slice A l.length c], .int .i64 y] V (ChPo V (leaves ⟨a0, a1, l⟩ y).1.id (leaves ⟨a0, a1, l⟩ y).1.ow (leaves ⟨a0, a1, l⟩ y).1.l ((leaves ⟨a0, a1, l⟩ y).2 : Int))) := fun y V hV => cho (leave_any a0 a1 A c l y V HLEN.out HW.out.hc (HW.out.keep.on hV).2.2.2.1.sl)
            generalize leaves ⟨a0, a1, l⟩ = LV at HL HLE
            have hbc : b < wc.heap.size := Nat.lt_of_lt_of_le HB.out HW.out.hb.size
            have SB : Hid (∀ v, Below Y wc v → Cb v X a0 a1 A l.length c ∧ v.cell? ⟨b, off + k, none⟩ = some (.int .i64 x)) := Lib.hid (fun v g => ⟨HW.out.cx.cb.on g HW.out.xy, (g.cell (p := ⟨b, off + k, none⟩) (Nat.lt_of_lt_of_le HB.out HW.out.ly)).trans hcell⟩)
            have BD : Hid (Below Y wc wc.drew) := (Below.refl _ _).drew
            have BE : Hid (Below wc.heap.size wc wc.drew) := (Below.refl _ _).drew
            clear hcell hbc
            go_wp2_with fail
            refine wp_region_held_drew (S := fun v => Below Y wc v) (by kernel_rfl) BD.out (fun hH => ?_)
            refine wpAnyH_take (i := 0) (v := ?v14) rfl (by kernel_rfl) (by kernel_rfl) (by kernel_rfl) (fun _ _ _ h => h) (Or.inl ⟨by rfl, ?hy14⟩) hH ?rest14
            case hy14 => (intro w hSw; (try dsimp only at hSw); obtain ⟨⟨f0, f1, f2⟩, fx⟩ := SB.out w hSw; go_simp; try with_reducible rfl)
            try simp only [Act.put, List.setIfInBounds_toArray, List.set_cons_zero, List.set_cons_succ, List.getElem_toArray, List.getElem_cons_zero]
            refine wpAnyH_take (i := 1) (v := ?v15) rfl (by kernel_rfl) (by kernel_rfl) (by kernel_rfl) (fun _ _ _ h => h) (Or.inl ⟨by rfl, ?hy15⟩) hH ?rest15
            case hy15 => (intro w hSw; (try dsimp only at hSw); go_simp; try with_reducible rfl)
            try simp only [Act.put, List.setIfInBounds_toArray, List.set_cons_zero, List.set_cons_succ, List.getElem_toArray, List.getElem_cons_zero, List.getElem_cons_succ]
            refine wpAnyH_take (i := 2) (v := ?v16) rfl (by kernel_rfl) (by kernel_rfl) (by kernel_rfl) (fun _ _ _ h => h) (Or.inl ⟨by rfl, ?hy16⟩) hH ?rest16
            case hy16 => (intro w hSw; (try dsimp only at hSw); go_simp; try with_reducible rfl)
            try simp only [Act.put, List.setIfInBounds_toArray, List.set_cons_zero, List.set_cons_succ, List.getElem_toArray, List.getElem_cons_zero, List.getElem_cons_succ]
            refine wpAnyH_take (i := 3) (v := ?v17) rfl (by kernel_rfl) (by kernel_rfl) (by kernel_rfl) (fun _ _ _ h => h) (Or.inl ⟨by rfl, ?hy17⟩) hH ?rest17
            case hy17 => (intro w hSw; (try dsimp only at hSw); go_simp; try with_reducible rfl)
            try simp only [Act.put, List.setIfInBounds_toArray, List.set_cons_zero, List.set_cons_succ, List.getElem_toArray, List.getElem_cons_zero, List.getElem_cons_succ]
            refine wpAnyH_take (i := 4) (v := ?v18) rfl (by kernel_rfl) (by kernel_rfl) (by kernel_rfl) (fun _ _ _ h => h) (Or.inl ⟨by rfl, ?hy18⟩) hH ?rest18
            case hy18 => (intro w hSw; (try dsimp only at hSw); obtain ⟨⟨f0, f1, f2⟩, fx⟩ := SB.out w hSw; go_simp; try with_reducible rfl)
            try simp only [Act.put, List.setIfInBounds_toArray, List.set_cons_zero, List.set_cons_succ, List.getElem_toArray, List.getElem_cons_zero, List.getElem_cons_succ]
            refine wpAnyH_take (i := 5) (v := ?v19) rfl (by kernel_rfl) (by kernel_rfl) (by kernel_rfl) (fun _ _ _ h => h) (Or.inl ⟨by rfl, ?hy19⟩) hH ?rest19
            case hy19 => (intro w hSw; (try dsimp only at hSw); go_simp; try with_reducible rfl)
            try simp only [Act.put, List.setIfInBounds_toArray, List.set_cons_zero, List.set_cons_succ, List.getElem_toArray, List.getElem_cons_zero, List.getElem_cons_succ]
            refine wpAnyH_ready (rs := [6]) (by kernel_rfl) (by simp) ?_
            refine AllReadyH.cons rfl (fun K hK => ?_) AllReadyH.nil
            go_simp
            go_at_call 11
            with_reducible refine (HL _ _ BE.out).out.mono ?_
            rintro e wq ⟨A3, c3, rfl, hc3, hf3, hb3⟩
            go_wp2_with fail
            have hQ := BE.out.trans (hb3.mono BE.out.size)
            refine hK.out _ _ (hQ.mono (Nat.le_of_lt HW.out.cy.lt)) (fun hH2 => ?_)
            clear hK K hH
            have hH := hH2
            clear hH2
            try simp only [Act.put, List.setIfInBounds_toArray, List.set_cons_zero, List.set_cons_succ, List.getElem_toArray, List.getElem_cons_zero, List.getElem_cons_succ]
            refine wpAnyH_take (i := 7) (v := ?v20) rfl (by kernel_rfl) (by kernel_rfl) (by kernel_rfl) (fun _ _ _ h => h) (Or.inl ⟨by rfl, ?hy20⟩) hH ?rest20
            case hy20 => (intro w hSw; (try dsimp only at hSw); go_simp; try with_reducible rfl)
            try simp only [Act.put, List.setIfInBounds_toArray, List.set_cons_zero, List.set_cons_succ, List.getElem_toArray, List.getElem_cons_zero, List.getElem_cons_succ]
            refine wpAnyH_take (i := 8) (v := ?v21) rfl (by kernel_rfl) (by kernel_rfl) (by kernel_rfl) (fun _ _ _ h => h) (Or.inl ⟨by rfl, ?hy21⟩) hH ?rest21
            case hy21 => (intro w hSw; (try dsimp only at hSw); go_simp; try with_reducible rfl)
            try simp only [Act.put, List.setIfInBounds_toArray, List.set_cons_zero, List.set_cons_succ, List.getElem_toArray, List.getElem_cons_zero, List.getElem_cons_succ]
            refine wpAnyH_take (i := 9) (v := ?v22) rfl (by kernel_rfl) (by kernel_rfl) (by kernel_rfl) (fun _ _ _ h => h) (Or.inl ⟨by rfl, ?hy22⟩) hH ?rest22
            case hy22 => (intro w hSw; (try dsimp only at hSw); go_simp; try with_reducible rfl)
            try simp only [Act.put, List.setIfInBounds_toArray, List.set_cons_zero, List.set_cons_succ, List.getElem_toArray, List.getElem_cons_zero, List.getElem_cons_succ]
            refine wpAnyH_ready (rs := [10]) (by kernel_rfl) (by simp) ?_
            refine AllReadyH.cons rfl (fun K hK => ?_) AllReadyH.nil
            have XQ := HW.out.cy.on hQ HW.out.cy.lt
            have n0 := XQ.free 0
            have n1 := XQ.free 1
            have n2 := XQ.free 2
            obtain ⟨k0, k1, k2⟩ := XQ.cb
            go_simp
            refine hK.out _ _ (put_bel HW.out.cy.lt hQ) (fun hH2 => ?_)
            clear hK K hH
            have hH := hH2
            clear hH2
            try simp only [Act.put, List.setIfInBounds_toArray, List.set_cons_zero, List.set_cons_succ, List.getElem_toArray, List.getElem_cons_zero, List.getElem_cons_succ]
            refine wpAnyH_take (i := 11) (v := ?v23) rfl (by kernel_rfl) (by kernel_rfl) (by kernel_rfl) (fun _ _ _ h => h) (Or.inl ⟨by rfl, ?hy23⟩) hH ?rest23
            case hy23 => (intro w hSw; (try dsimp only at hSw); go_simp; try with_reducible rfl)
            try simp only [Act.put, List.setIfInBounds_toArray, List.set_cons_zero, List.set_cons_succ, List.getElem_toArray, List.getElem_cons_zero, List.getElem_cons_succ]
            refine wpAnyH_done (by kernel_rfl) ?_ _
            go_wp2
            go_meet
            case rel => exact ⟨Y, _, _, _, _, _, _, rfl, rfl, Lib.hid (HW.out.leave hQ hf3 hc3 (HLE.out _))⟩
          · go_wp2
            go_meet
            case rel => exact ⟨Y, _, _, _, _, _, _, rfl, rfl, HW⟩
        case rest =>
          clear HW hcell HC HB
          obtain ⟨Y, i, o, A1, c1, l1, e, rfl, rfl, HV⟩ := hcut
          by_cases he : e = 0
          · have hv := HV.out.take he
            obtain ⟨rfl, rfl, -⟩ := HV.out.he he
            subst he
            obtain ⟨r0, r1, r2⟩ := HV.out.cy.cb
            obtain ⟨p0, p1, p2⟩ := HV.out.cx.cb
            have f0 := HV.out.cx.free 0
            have f1 := HV.out.cx.free 1
            have f2 := HV.out.cx.free 2
            obtain ⟨t0, t1, t2⟩ := hv.2.1.cb
            go_wp2_with fail
            clear p0 p1 p2 r0 r1 r2 f0 f1 f2 t0 t1 t2 HV
            generalize ((wc.setCell ⟨X, 0, none⟩ (.int .i64 i)).setCell ⟨X, 1, none⟩ (.int .i64 o)).setCell ⟨X, 2, none⟩ (.slice A1 l1.length c1) = W5 at *
            have H5 := hv
            clear hv
            have l16 : l1.length ≤ 1000 := by have := (mb_iff.1 H5.2.2.2.2.1).2.1.2; have h2 : l1.length ≤ 16 := this; omega
            have HM5 := Lib.hid (may_any i o A1 c1 l1 W5 l16 H5.2.2.2.1.sl)
            have HI5 : ∀ W, Below W5.heap.size W5 W → Hid (Calls Try.prog 18 #[.agg #[.int .i64 i, .int .i64 o, .slice A1 l1.length c1], .int .i64 o] W (BoolPost W true)) := fun W hW => by
              have := in_any i o A1 c1 l1 o W l16 (H5.on hW).2.2.2.1.sl
              rw [H5.2.2.2.2.1, decide_eq_true (mb_iff.1 H5.2.2.2.2.1).2.2.2.2] at this
              exact this
            rw [H5.2.2.2.2.1] at HM5
            refine HM5.out.mono ?_
            rintro e w5 ⟨rfl, b5⟩
            have H6 := H5.on b5
            have HI6 := HI5 w5 b5
            obtain ⟨p0, p1, p2⟩ := H6.2.1.cb
            clear HM5 HI5
            go_wp2_with fail
            refine HI6.out.mono ?_
            rintro e w6 ⟨rfl, b6⟩
            clear p0 p1 p2
            have H7 := Lib.hid (H6.on b6)
            obtain ⟨p0, p1, p2⟩ := H7.out.2.1.cb
            clear HI6 H6 H5
            go_wp2
            go_roundw
            case rel => exact ⟨k + 1, A1, c1, l1, by omega, by go_num, H7⟩
            case measure => simp [intOf]; omega
          · have he2 : (e == 0) = false := by rw [beq_eq_false_iff_ne]; exact he
            have hv := HV.out.keep
            obtain ⟨p0, p1, p2⟩ := HV.out.cx.cb
            clear HV
            go_wp2_with fail
            clear p0 p1 p2
            generalize wc = W5 at *
            have H5 := hv
            clear hv
            have l16 : l.length ≤ 1000 := by have := (mb_iff.1 H5.2.2.2.2.1).2.1.2; have h2 : l.length ≤ 16 := this; omega
            have HM5 := Lib.hid (may_any a0 a1 A c l W5 l16 H5.2.2.2.1.sl)
            have HI5 : ∀ W, Below W5.heap.size W5 W → Hid (Calls Try.prog 18 #[.agg #[.int .i64 a0, .int .i64 a1, .slice A l.length c], .int .i64 a1] W (BoolPost W true)) := fun W hW => by
              have := in_any a0 a1 A c l a1 W l16 (H5.on hW).2.2.2.1.sl
              rw [H5.2.2.2.2.1, decide_eq_true (mb_iff.1 H5.2.2.2.2.1).2.2.2.2] at this
              exact this
            rw [H5.2.2.2.2.1] at HM5
            refine HM5.out.mono ?_
            rintro e w5 ⟨rfl, b5⟩
            have H6 := H5.on b5
            have HI6 := HI5 w5 b5
            obtain ⟨p0, p1, p2⟩ := H6.2.1.cb
            clear HM5 HI5
            go_wp2_with fail
            refine HI6.out.mono ?_
            rintro e w6 ⟨rfl, b6⟩
            clear p0 p1 p2
            have H7 := Lib.hid (H6.on b6)
            obtain ⟨p0, p1, p2⟩ := H7.out.2.1.cb
            clear HI6 H6 H5
            go_wp2
            go_roundw
            case rel => exact ⟨k + 1, A, c, l, by omega, by go_num, H7⟩
            case measure => simp [intOf]; omega
    · obtain rfl : k = l2.length := by omega
      have BW := HS.out.2.2.2.2.2
      go_wp2
      go_ret
      exact ⟨rfl, BW⟩

theorem walk (a0 a1 : Int) (A2 : Option Addr) (c2 : Nat) (l2 : List Int) (w : World) (s2 : Sl w w.heap.size .i64 A2 l2) (m2 : l2.length ≤ c2) : Calls Try.prog 4 #[.int .i64 a0, .int .i64 a1, .slice A2 l2.length c2] w (UpPost w) := by
  have HO : ∀ W, Hid (Calls Try.prog 13 #[.int .i64 a0, .int .i64 a1] W (ChPost W (opens a0 a1))) := fun W => open_any a0 a1 W
  by_cases hm : mb a0 a1 [a1] = true
  · have e : opens a0 a1 = (⟨a0, a1, [a1]⟩, 0) := by unfold opens; rw [if_pos (mb_iff.1 hm)]
    by_cases hl : (100 : Int) < (l2.length : Int)
    · exact long a0 a1 A2 c2 l2 w s2 m2 hl [a1] (fun W => cho' (HO W).out e rfl)
    · exact main a0 a1 A2 c2 l2 w s2 m2 hl [a1] hm (fun W => cho' (HO W).out e rfl)
  · have e : opens a0 a1 = (⟨0, 0, []⟩, 1) := by unfold opens; rw [if_neg (fun q => hm (mb_iff.2 q))]; rfl
    exact no a0 a1 A2 c2 l2 w s2 m2 0 0 1 [] (by decide) (fun W => cho' (HO W).out e rfl)

theorem own : ownKnob Try.prog.godebug = none := by kernel_rfl
theorem laidOut : laidOutB Try.prog = true := by kernel_rfl

set_option maxRecDepth 100000 in
theorem lifted (os : Os) (started : os.Started) (H : Type) (enc : TypeId × Value → H) :
    ReturnsInHanded {} Try.checked os 4 .any (Rows.peopleOwnerSpec.pre6 enc Try.prog Try.f4 Rows.peopleOwnerRow.domain false) (Rows.peopleOwnerSpec.post enc Try.prog Try.f4 false true false false) := by
  refine returnsInHanded_of_change (C := Try.checked) own started (by kernel_rfl) Try.func4
    (ChangeSpec.witness6 (enc := enc) (C := Try.checked) false ⟨#[], #[.int .i64 0, .int .i64 0, .slice none 0 0], []⟩ 8 (by kernel_rfl) (by kernel_rfl) (by kernel_rfl) (by kernel_rfl)) ?_
  intro W base args ds gs before hval0 hW hcnd _
  have hval : ∀ (j : Nat) t v, Try.f4.params[j]? = some t → args[j]? = some v → Value.okWide Try.prog W .any base t v := hval0
  have hW' := hW
  obtain ⟨p, q, hA, hV, rfl, hfz, hnd⟩ := hW
  have hA : DataW.TrodAll enc Try.prog W 0 (fun _ => true) true Try.f4.params.toList args.toList ds p := hA
  rw [Try.params4] at hA hval
  obtain ⟨v0, vs0, d0, ds0, p0, q0, hargs, rfl, rfl, h0, r0⟩ := trodAll_cons hA
  obtain ⟨v1, vs1, d1, ds1, p1, q1, rfl, rfl, rfl, h1, r1⟩ := trodAll_cons r0
  obtain ⟨v2, vs2, d2, ds2, p2, q2, rfl, rfl, rfl, h2, r2⟩ := trodAll_cons r1
  obtain ⟨rfl, rfl, rfl⟩ := trodAll_nil r2
  obtain rfl : args = #[v0, v1, v2] := by cases args; simp_all
  obtain ⟨rfl, rfl⟩ := trodVars_none hV
  obtain ⟨a0, rfl, rfl, rfl, w0⟩ := open_int Try.underlying3 (hval 0 3 v0 rfl rfl) h0
  obtain ⟨a1, rfl, rfl, rfl, w1⟩ := open_int Try.underlying3 (hval 1 3 v1 rfl rfl) h1
  have k2 := h2
  have lt2 : ∀ x ∈ p2, x.block < W.heap.size := by obtain ⟨m, hm⟩ := k2; exact DataW.trod_lt m _ _ _ hm
  obtain ⟨A2, c2, l2, rfl, s2, m2⟩ := open_row (hval 2 22 v2 rfl rfl) h2
  clear hval0
  refine (walk a0 a1 A2 c2 l2 W   s2 m2).mono fun e W' ⟨he, bel⟩ => ?_
  subst he
  exact ⟨_, rfl, _, _, _, [], _, [], hW', trodAll_mk1 (shut_bool Try.underlying4 _), (trodAll_cons_mk (shut_int Try.underlying3 w0) (trodAll_cons_mk (shut_int Try.underlying3 w1) (trodAll_cons_mk (Below.trod laidOut (by kernel_rfl) (of_decide_eq_true (by kernel_rfl)) k2 bel lt2) trodAll_mk0))), rfl, bel.frame _, fun h => by cases h⟩

theorem over : Rows.peopleOwnerRow.holds Try.pinned (OpenSpec.ofChange Rows.peopleOwnerSpec) :=
  OpenClaim.holds_of_wide 4 Try.f4 rfl rfl rfl rfl rfl rfl rfl ⟨rfl, rfl, rfl, rfl, rfl⟩ rfl rfl rfl rfl rfl (by kernel_rfl) Try.func4 (by kernel_rfl)
    (of_decide_eq_true (by kernel_rfl)) (by unfold Func.isWrapper; first | (rw [if_pos (by decide +kernel)]; kernel_rfl) | (rw [if_neg (by decide +kernel)]; exact ⟨rfl, rfl⟩))
    (fun os started H enc _ => lifted os started H enc)

theorem proved : Rows.PeopleOwnerSaid := over
#print axioms proved
end Go.Proofs.Ytpelopfbdfnmeaa.peopleOwner
