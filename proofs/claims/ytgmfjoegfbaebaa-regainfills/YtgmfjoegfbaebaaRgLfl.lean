/-
  The walk of the law RegainFills: no command is made up. No conditions.
-/
import Derived.Test.YtgmfjoegfbaebaaRgMt
import Derived.Deep.RegionHeld3
import Derived.Deep.QuietTactic
namespace Go.Proofs.Ytgmfjoegfbaebaa.Rg
open Go.RowKit In
set_option linter.unusedVariables false
attribute [local go_sem ↓ high] Ba.eq23 Ba.guard23 Ba.neq23 Ba.guard23n eqc guardc neqc guardcn

/-- Has it told of that command? -/
def tl (d : Ch) (x : Rp) : Bool := !(nn x) && ((x.r.u == d.u) && (x.r.s == d.s) && (x.r.k == d.d) && (x.r.h == d.h) && (x.r.n == d.n) && decide (x.r.t = d.t))
theorem told_yes {o : Int} {n : Nat} {L : List Rp} (h4 : (dc o n (ct L n)).k ≠ 4) (h0 : (dc o n (ct L n)).k ≠ 0) : L.any (tl (dc o n (ct L n))) = true := by
  obtain ⟨x, hx, hs, h1, h2, h3, h5, h6, h7⟩ := dc_told h4 h0
  rw [List.any_eq_true]
  refine ⟨x, hx, ?_⟩
  unfold tl nn
  rcases hs with hs | hs | hs <;> simp [hs, h1, h2, h3, h5, h6, h7]
set_option maxHeartbeats 1600000 in
theorem lfills_any (n o : Int) (A : Option Addr) (c : Nat) (L : List Rp) (w : World) (hs : Ls w w.heap.size A L) : Calls Try.prog 6 #[.int .i64 n, .int .i64 o, .slice A L.length c] w (UpPost w) := by
  have HA : Hid (Calls Try.prog 8 #[] w (UpPost w)) := awake_any w
  have HF : ∀ V, Ls V V.heap.size A L → Hid (Calls Try.prog 9 #[.slice A L.length c] V (BoolPost V (fw L))) := fun V g => few_any A c L V g
  rcases hf : fw L with _ | _
  · rw [hf] at HF
    go_enter Try.func6, Try.ntmps6
    go_wp2_with fail
    refine HA.out.mono ?_
    rintro e w1 ⟨rfl, b1⟩
    have S1 := hs.to b1 b1.size
    clear HA
    go_wp2_with fail
    refine (HF w1 S1).out.mono ?_
    rintro e w2 ⟨rfl, b2⟩
    have B2 := b1.trans (b2.mono b1.size)
    clear HF S1 b1 b2
    go_wp2
    go_ret
    exact ⟨rfl, B2⟩
  · rw [hf] at HF
    have hk := fw_few hf
    have hfw := Few.le hk.1 hk.2
    have h1 : ∀ V, Ls V V.heap.size A L → Hid (Calls Try.prog 11 #[.int .i64 n, .int .i64 o, .slice A L.length c] V (ChP V (dc o (am n) (ct L (am n))))) := fun V g => Decide_any n o A c L hfw V g
    have h4 : ∀ V, Hid (Calls Try.prog 13 #[.int .i64 n] V (IntP V (qu (am n)))) := fun V => Quorum_any n V
    have H1 : Hid ((dc o (am n) (ct L (am n))).k = 4 → dc o (am n) (ct L (am n)) = c4 ∧ ((qu (am n) : Nat) : Int) ≤ ((L.filter nn).length : Int)) := Lib.hid (fun h => by
      obtain ⟨e1, e2⟩ := dc_fills h
      refine ⟨e1, ?_⟩
      unfold qu
      omega)
    have H2 : Hid ((dc o (am n) (ct L (am n))).k ≠ 4 → (dc o (am n) (ct L (am n))).k ≠ 0 → L.any (tl (dc o (am n) (ct L (am n)))) = true) := Lib.hid (fun h4 h0 => told_yes h4 h0)
    have hll := hk.1
    generalize dc o (am n) (ct L (am n)) = d at *
    generalize ((qu (am n) : Nat) : Int) = q at *
    clear hf hk hfw
    go_enter Try.func6, Try.ntmps6
    go_wp2_with fail
    refine HA.out.mono ?_
    rintro e w1 ⟨rfl, b1⟩
    have S1 := hs.to b1 b1.size
    clear HA
    go_wp2_with fail
    refine (HF w1 S1).out.mono ?_
    rintro e w2 ⟨rfl, b2⟩
    have B2 := b1.trans (b2.mono b1.size)
    have S2 := S1.to b2 b2.size
    clear HF S1 b1 b2
    go_wp2_with fail
    refine (h1 w2 S2).out.mono ?_
    rintro e w3 ⟨A3, c3, rfl, f3, b3⟩
    have B3 := B2.trans (b3.mono B2.size)
    have b4 : Below w3.heap.size w3 (w3.alloc (.cells (chc d A3 c3) 32)) := (Below.refl _ _).alloc (Nat.le_refl _) _
    have X4 := Lib.hid (cx_new w3 d A3 c3)
    have B4 := Lib.hid (B3.trans (b4.mono B3.size))
    have S4 := Lib.hid ((S2.to b3 b3.size).to b4 b4.size)
    have HB3 := B3.size
    clear h1 S2 B2 B3 b3 b4 f3 hs
    go_wp2
    generalize w3.alloc (.cells (chc d A3 c3) 32) = w4 at *
    go_loopw [10, 11, 12] (fun v u t wr => ∃ i : Nat, i ≤ L.length ∧ v = .int .i64 (((L.take i).filter nn).length : Int) ∧ u = .bool ((L.take i).any (tl d)) ∧ t = .int .i64 (i : Int) ∧ Below w.heap.size w wr ∧ Ls wr wr.heap.size A L ∧ Cx wr w3.heap.size d A3 c3) (fun _ _ t _ => 201 - (intOf t).toNat)
    case atStart => exact ⟨0, Nat.zero_le _, rfl, rfl, rfl, B4.out, S4.out, X4.out⟩
    case round =>
      obtain ⟨i, hi1, rfl, rfl, rfl, B5, S5, X5⟩ := hrel
      clear B4 S4 X4
      by_cases hil : i < L.length
      · have hili : (i : Int) < (L.length : Int) := by omega
        have hil0 : (0 : Int) ≤ (i : Int) := by omega
        have hta : (L.take (i + 1)) = L.take i ++ [L[i]] := take_snoc hil
        have ETN : Hid (((L.take (i + 1)).filter nn).length = ((L.take i).filter nn).length + (if nn L[i] = true then 1 else 0)) := Lib.hid (by
          rw [hta, List.filter_append, List.length_append]
          rcases hnn : nn L[i] with _ | _ <;> simp [hnn])
        have ETL : Hid ((L.take (i + 1)).any (tl d) = ((L.take i).any (tl d) || tl d L[i])) := Lib.hid (by
          rw [hta, List.any_append]
          simp)
        have hnl : ((L.take i).filter nn).length ≤ 40 := Nat.le_trans (List.length_filter_le _ _) (by rw [List.length_take]; omega)
        clear hta
        generalize ((L.take i).filter nn).length = a at *
        generalize (L.take i).any (tl d) = u at *
        obtain ⟨b, off, hA, hb, hq, hx⟩ := S5.at_ hil
        have HS5 := Lib.hid S5
        have HX5 := Lib.hid X5
        generalize L[i] = x at *
        obtain ⟨q0, q1, q2, q3, q4, q5, q6, q7, q8, q9, q10, q11, q12, q13⟩ := id hq
        obtain ⟨p0, p1, p2, p3, p4, p5, p6, p7, p8⟩ := id X5.cc
        subst hA
        have HQ := Lib.hid hq
        clear hq hx S5 X5
        obtain ⟨xf, ⟨st, pn, pb, vn, vb, xu, s', k, h, n', t, xq, xs⟩, xA, xc⟩ := x
        dsimp only at q0 q1 q2 q3 q4 q5 q6 q7 q8 q9 q10 q11 q12 q13 HQ ETN ETL
        by_cases hs1 : 1 = st
        · subst hs1
          have e1 := Lib.hid (ETN.out.trans (show _ = a by simp [nn]))
          have e2 := Lib.hid (ETL.out.trans (show _ = (u || ((xu == d.u) && (s' == d.s) && (k == d.d) && (h == d.h) && (n' == d.n) && decide (t = d.t))) by simp [tl, nn]))
          clear ETN ETL
          rcases u with _ | _
          · go_wp2
            have SB : Hid (∀ v, Below wr.heap.size wr v → Rq v b (off + i * 14) ⟨xf, ⟨1, pn, pb, vn, vb, xu, s', k, h, n', t, xq, xs⟩, xA, xc⟩ ∧ Cc v w3.heap.size d A3 c3) := Lib.hid (fun v g => ⟨HQ.out.on g hb, (HX5.out.on g HX5.out.lt).cc⟩)
            have BD : Hid (Below wr.heap.size wr wr.drew) := (Below.refl _ _).drew
            have KB := Lib.hid B5
            clear q0 q1 q2 q3 q4 q5 q6 q7 q8 q9 q10 q11 q12 q13 p0 p1 p2 p3 p4 p5 p6 p7 p8 B5
            refine wp_region_held_drew (S := fun v => Below wr.heap.size wr v) (by kernel_rfl) BD.out (fun hH => ?_)
            refine wpAnyH_take (i := 0) (v := ?v40) rfl (by kernel_rfl) (by kernel_rfl) (by kernel_rfl) (fun _ _ _ h => h) (Or.inl ⟨by rfl, ?hy40⟩) hH ?rest40
            case hy40 => (intro w hSw; (try dsimp only at hSw); go_simp; try with_reducible rfl)
            try simp only [Act.put, List.setIfInBounds_toArray, List.set_cons_zero, List.set_cons_succ, List.getElem_toArray, List.getElem_cons_zero]
            refine wpAnyH_take (i := 1) (v := ?v41) rfl (by kernel_rfl) (by kernel_rfl) (by kernel_rfl) (fun _ _ _ h => h) (Or.inl ⟨by rfl, ?hy41⟩) hH ?rest41
            case hy41 => (intro w hSw; (try dsimp only at hSw); go_simp; try with_reducible rfl)
            try simp only [Act.put, List.setIfInBounds_toArray, List.set_cons_zero, List.set_cons_succ, List.getElem_toArray, List.getElem_cons_zero, List.getElem_cons_succ]
            refine wpAnyH_take (i := 2) (v := ?v42) rfl (by kernel_rfl) (by kernel_rfl) (by kernel_rfl) (fun _ _ _ h => h) (Or.inl ⟨by rfl, ?hy42⟩) hH ?rest42
            case hy42 => (intro w hSw; (try dsimp only at hSw); go_simp; try with_reducible rfl)
            try simp only [Act.put, List.setIfInBounds_toArray, List.set_cons_zero, List.set_cons_succ, List.getElem_toArray, List.getElem_cons_zero, List.getElem_cons_succ]
            refine wpAnyH_take (i := 3) (v := ?v43) rfl (by kernel_rfl) (by kernel_rfl) (by kernel_rfl) (fun _ _ _ h => h) (Or.inl ⟨by rfl, ?hy43⟩) hH ?rest43
            case hy43 => (intro w hSw; (try dsimp only at hSw); go_simp; try with_reducible rfl)
            try simp only [Act.put, List.setIfInBounds_toArray, List.set_cons_zero, List.set_cons_succ, List.getElem_toArray, List.getElem_cons_zero, List.getElem_cons_succ]
            refine wpAnyH_take (i := 4) (v := ?v44) rfl (by kernel_rfl) (by kernel_rfl) (by kernel_rfl) (fun _ _ _ h => h) (Or.inl ⟨by rfl, ?hy44⟩) hH ?rest44
            case hy44 => (intro w hSw; (try dsimp only at hSw); go_simp; try with_reducible rfl)
            try simp only [Act.put, List.setIfInBounds_toArray, List.set_cons_zero, List.set_cons_succ, List.getElem_toArray, List.getElem_cons_zero, List.getElem_cons_succ]
            refine wpAnyH_take (i := 5) (v := ?v45) rfl (by kernel_rfl) (by kernel_rfl) (by kernel_rfl) (fun _ _ _ h => h) (Or.inl ⟨by rfl, ?hy45⟩) hH ?rest45
            case hy45 => (intro w hSw; (try dsimp only at hSw); go_simp; try with_reducible rfl)
            try simp only [Act.put, List.setIfInBounds_toArray, List.set_cons_zero, List.set_cons_succ, List.getElem_toArray, List.getElem_cons_zero, List.getElem_cons_succ]
            refine wpAnyH_take (i := 6) (v := ?v46) rfl (by kernel_rfl) (by kernel_rfl) (by kernel_rfl) (fun _ _ _ h => h) (Or.inl ⟨by rfl, ?hy46⟩) hH ?rest46
            case hy46 => (intro w hSw; (try dsimp only at hSw); go_simp; try with_reducible rfl)
            try simp only [Act.put, List.setIfInBounds_toArray, List.set_cons_zero, List.set_cons_succ, List.getElem_toArray, List.getElem_cons_zero, List.getElem_cons_succ]
            refine wpAnyH_take (i := 7) (v := ?v47) rfl (by kernel_rfl) (by kernel_rfl) (by kernel_rfl) (fun _ _ _ h => h) (Or.inl ⟨by rfl, ?hy47⟩) hH ?rest47
            case hy47 => (intro w hSw; (try dsimp only at hSw); obtain ⟨⟨q0, q1, q2, q3, q4, q5, q6, q7, q8, q9, q10, q11, q12, q13⟩, p0, p1, p2, p3, p4, p5, p6, p7, p8⟩ := SB.out w hSw; go_simp; try with_reducible rfl)
            try simp only [Act.put, List.setIfInBounds_toArray, List.set_cons_zero, List.set_cons_succ, List.getElem_toArray, List.getElem_cons_zero, List.getElem_cons_succ]
            refine wpAnyH_take (i := 8) (v := ?v48) rfl (by kernel_rfl) (by kernel_rfl) (by kernel_rfl) (fun _ _ _ h => h) (Or.inl ⟨by rfl, ?hy48⟩) hH ?rest48
            case hy48 => (intro w hSw; (try dsimp only at hSw); go_simp; try with_reducible rfl)
            try simp only [Act.put, List.setIfInBounds_toArray, List.set_cons_zero, List.set_cons_succ, List.getElem_toArray, List.getElem_cons_zero, List.getElem_cons_succ]
            refine wpAnyH_take (i := 9) (v := ?v49) rfl (by kernel_rfl) (by kernel_rfl) (by kernel_rfl) (fun _ _ _ h => h) (Or.inl ⟨by rfl, ?hy49⟩) hH ?rest49
            case hy49 => (intro w hSw; (try dsimp only at hSw); obtain ⟨⟨q0, q1, q2, q3, q4, q5, q6, q7, q8, q9, q10, q11, q12, q13⟩, p0, p1, p2, p3, p4, p5, p6, p7, p8⟩ := SB.out w hSw; go_simp; try with_reducible rfl)
            try simp only [Act.put, List.setIfInBounds_toArray, List.set_cons_zero, List.set_cons_succ, List.getElem_toArray, List.getElem_cons_zero, List.getElem_cons_succ]
            refine wpAnyH_take (i := 10) (v := ?v50) rfl (by kernel_rfl) (by kernel_rfl) (by kernel_rfl) (fun _ _ _ h => h) (Or.inl ⟨by rfl, ?hy50⟩) hH ?rest50
            case hy50 => (intro w hSw; (try dsimp only at hSw); go_simp; try with_reducible rfl)
            try simp only [Act.put, List.setIfInBounds_toArray, List.set_cons_zero, List.set_cons_succ, List.getElem_toArray, List.getElem_cons_zero, List.getElem_cons_succ]
            refine wpAnyH_take (i := 11) (v := ?v51) rfl (by kernel_rfl) (by kernel_rfl) (by kernel_rfl) (fun _ _ _ h => h) (Or.inl ⟨by rfl, ?hy51⟩) hH ?rest51
            case hy51 => (intro w hSw; (try dsimp only at hSw); go_simp; try with_reducible rfl)
            try simp only [Act.put, List.setIfInBounds_toArray, List.set_cons_zero, List.set_cons_succ, List.getElem_toArray, List.getElem_cons_zero, List.getElem_cons_succ]
            refine wpAnyH_take (i := 12) (v := ?v52) rfl (by kernel_rfl) (by kernel_rfl) (by kernel_rfl) (fun _ _ _ h => h) (Or.inl ⟨by rfl, ?hy52⟩) hH ?rest52
            case hy52 => (intro w hSw; (try dsimp only at hSw); go_simp; try with_reducible rfl)
            try simp only [Act.put, List.setIfInBounds_toArray, List.set_cons_zero, List.set_cons_succ, List.getElem_toArray, List.getElem_cons_zero, List.getElem_cons_succ]
            refine wpAnyH_done (by kernel_rfl) ?_ _
            go_wp2
            go_roundw
            case rel => exact ⟨i + 1, by omega, by rw [e1.out], by rw [e2.out]; rfl, by go_num, KB.out.trans (hH.mono KB.out.size), HS5.out.to hH hH.size, HX5.out.on hH HX5.out.lt⟩
            case measure => simp [intOf]; omega
          · go_wp2
            go_quiet (fail)
            rename_i nq
            go_wp2
            go_roundw
            case rel => exact ⟨i + 1, by omega, by rw [e1.out], by rw [e2.out]; rfl, by go_num, below_drewN B5 nq, HS5.out, HX5.out⟩
            case measure => simp [intOf]; omega
        · by_cases hs2 : 2 = st
          · subst hs2
            have e1 := Lib.hid (ETN.out.trans (show _ = a by simp [nn]))
            have e2 := Lib.hid (ETL.out.trans (show _ = (u || ((xu == d.u) && (s' == d.s) && (k == d.d) && (h == d.h) && (n' == d.n) && decide (t = d.t))) by simp [tl, nn]))
            clear ETN ETL
            rcases u with _ | _
            · go_wp2
              have SB : Hid (∀ v, Below wr.heap.size wr v → Rq v b (off + i * 14) ⟨xf, ⟨2, pn, pb, vn, vb, xu, s', k, h, n', t, xq, xs⟩, xA, xc⟩ ∧ Cc v w3.heap.size d A3 c3) := Lib.hid (fun v g => ⟨HQ.out.on g hb, (HX5.out.on g HX5.out.lt).cc⟩)
              have BD : Hid (Below wr.heap.size wr wr.drew) := (Below.refl _ _).drew
              have KB := Lib.hid B5
              clear q0 q1 q2 q3 q4 q5 q6 q7 q8 q9 q10 q11 q12 q13 p0 p1 p2 p3 p4 p5 p6 p7 p8 B5
              refine wp_region_held_drew (S := fun v => Below wr.heap.size wr v) (by kernel_rfl) BD.out (fun hH => ?_)
              refine wpAnyH_take (i := 0) (v := ?v53) rfl (by kernel_rfl) (by kernel_rfl) (by kernel_rfl) (fun _ _ _ h => h) (Or.inl ⟨by rfl, ?hy53⟩) hH ?rest53
              case hy53 => (intro w hSw; (try dsimp only at hSw); go_simp; try with_reducible rfl)
              try simp only [Act.put, List.setIfInBounds_toArray, List.set_cons_zero, List.set_cons_succ, List.getElem_toArray, List.getElem_cons_zero]
              refine wpAnyH_take (i := 1) (v := ?v54) rfl (by kernel_rfl) (by kernel_rfl) (by kernel_rfl) (fun _ _ _ h => h) (Or.inl ⟨by rfl, ?hy54⟩) hH ?rest54
              case hy54 => (intro w hSw; (try dsimp only at hSw); go_simp; try with_reducible rfl)
              try simp only [Act.put, List.setIfInBounds_toArray, List.set_cons_zero, List.set_cons_succ, List.getElem_toArray, List.getElem_cons_zero, List.getElem_cons_succ]
              refine wpAnyH_take (i := 2) (v := ?v55) rfl (by kernel_rfl) (by kernel_rfl) (by kernel_rfl) (fun _ _ _ h => h) (Or.inl ⟨by rfl, ?hy55⟩) hH ?rest55
              case hy55 => (intro w hSw; (try dsimp only at hSw); go_simp; try with_reducible rfl)
              try simp only [Act.put, List.setIfInBounds_toArray, List.set_cons_zero, List.set_cons_succ, List.getElem_toArray, List.getElem_cons_zero, List.getElem_cons_succ]
              refine wpAnyH_take (i := 3) (v := ?v56) rfl (by kernel_rfl) (by kernel_rfl) (by kernel_rfl) (fun _ _ _ h => h) (Or.inl ⟨by rfl, ?hy56⟩) hH ?rest56
              case hy56 => (intro w hSw; (try dsimp only at hSw); go_simp; try with_reducible rfl)
              try simp only [Act.put, List.setIfInBounds_toArray, List.set_cons_zero, List.set_cons_succ, List.getElem_toArray, List.getElem_cons_zero, List.getElem_cons_succ]
              refine wpAnyH_take (i := 4) (v := ?v57) rfl (by kernel_rfl) (by kernel_rfl) (by kernel_rfl) (fun _ _ _ h => h) (Or.inl ⟨by rfl, ?hy57⟩) hH ?rest57
              case hy57 => (intro w hSw; (try dsimp only at hSw); go_simp; try with_reducible rfl)
              try simp only [Act.put, List.setIfInBounds_toArray, List.set_cons_zero, List.set_cons_succ, List.getElem_toArray, List.getElem_cons_zero, List.getElem_cons_succ]
              refine wpAnyH_take (i := 5) (v := ?v58) rfl (by kernel_rfl) (by kernel_rfl) (by kernel_rfl) (fun _ _ _ h => h) (Or.inl ⟨by rfl, ?hy58⟩) hH ?rest58
              case hy58 => (intro w hSw; (try dsimp only at hSw); go_simp; try with_reducible rfl)
              try simp only [Act.put, List.setIfInBounds_toArray, List.set_cons_zero, List.set_cons_succ, List.getElem_toArray, List.getElem_cons_zero, List.getElem_cons_succ]
              refine wpAnyH_take (i := 6) (v := ?v59) rfl (by kernel_rfl) (by kernel_rfl) (by kernel_rfl) (fun _ _ _ h => h) (Or.inl ⟨by rfl, ?hy59⟩) hH ?rest59
              case hy59 => (intro w hSw; (try dsimp only at hSw); go_simp; try with_reducible rfl)
              try simp only [Act.put, List.setIfInBounds_toArray, List.set_cons_zero, List.set_cons_succ, List.getElem_toArray, List.getElem_cons_zero, List.getElem_cons_succ]
              refine wpAnyH_take (i := 7) (v := ?v60) rfl (by kernel_rfl) (by kernel_rfl) (by kernel_rfl) (fun _ _ _ h => h) (Or.inl ⟨by rfl, ?hy60⟩) hH ?rest60
              case hy60 => (intro w hSw; (try dsimp only at hSw); obtain ⟨⟨q0, q1, q2, q3, q4, q5, q6, q7, q8, q9, q10, q11, q12, q13⟩, p0, p1, p2, p3, p4, p5, p6, p7, p8⟩ := SB.out w hSw; go_simp; try with_reducible rfl)
              try simp only [Act.put, List.setIfInBounds_toArray, List.set_cons_zero, List.set_cons_succ, List.getElem_toArray, List.getElem_cons_zero, List.getElem_cons_succ]
              refine wpAnyH_take (i := 8) (v := ?v61) rfl (by kernel_rfl) (by kernel_rfl) (by kernel_rfl) (fun _ _ _ h => h) (Or.inl ⟨by rfl, ?hy61⟩) hH ?rest61
              case hy61 => (intro w hSw; (try dsimp only at hSw); go_simp; try with_reducible rfl)
              try simp only [Act.put, List.setIfInBounds_toArray, List.set_cons_zero, List.set_cons_succ, List.getElem_toArray, List.getElem_cons_zero, List.getElem_cons_succ]
              refine wpAnyH_take (i := 9) (v := ?v62) rfl (by kernel_rfl) (by kernel_rfl) (by kernel_rfl) (fun _ _ _ h => h) (Or.inl ⟨by rfl, ?hy62⟩) hH ?rest62
              case hy62 => (intro w hSw; (try dsimp only at hSw); obtain ⟨⟨q0, q1, q2, q3, q4, q5, q6, q7, q8, q9, q10, q11, q12, q13⟩, p0, p1, p2, p3, p4, p5, p6, p7, p8⟩ := SB.out w hSw; go_simp; try with_reducible rfl)
              try simp only [Act.put, List.setIfInBounds_toArray, List.set_cons_zero, List.set_cons_succ, List.getElem_toArray, List.getElem_cons_zero, List.getElem_cons_succ]
              refine wpAnyH_take (i := 10) (v := ?v63) rfl (by kernel_rfl) (by kernel_rfl) (by kernel_rfl) (fun _ _ _ h => h) (Or.inl ⟨by rfl, ?hy63⟩) hH ?rest63
              case hy63 => (intro w hSw; (try dsimp only at hSw); go_simp; try with_reducible rfl)
              try simp only [Act.put, List.setIfInBounds_toArray, List.set_cons_zero, List.set_cons_succ, List.getElem_toArray, List.getElem_cons_zero, List.getElem_cons_succ]
              refine wpAnyH_take (i := 11) (v := ?v64) rfl (by kernel_rfl) (by kernel_rfl) (by kernel_rfl) (fun _ _ _ h => h) (Or.inl ⟨by rfl, ?hy64⟩) hH ?rest64
              case hy64 => (intro w hSw; (try dsimp only at hSw); go_simp; try with_reducible rfl)
              try simp only [Act.put, List.setIfInBounds_toArray, List.set_cons_zero, List.set_cons_succ, List.getElem_toArray, List.getElem_cons_zero, List.getElem_cons_succ]
              refine wpAnyH_take (i := 12) (v := ?v65) rfl (by kernel_rfl) (by kernel_rfl) (by kernel_rfl) (fun _ _ _ h => h) (Or.inl ⟨by rfl, ?hy65⟩) hH ?rest65
              case hy65 => (intro w hSw; (try dsimp only at hSw); go_simp; try with_reducible rfl)
              try simp only [Act.put, List.setIfInBounds_toArray, List.set_cons_zero, List.set_cons_succ, List.getElem_toArray, List.getElem_cons_zero, List.getElem_cons_succ]
              refine wpAnyH_done (by kernel_rfl) ?_ _
              go_wp2
              go_roundw
              case rel => exact ⟨i + 1, by omega, by rw [e1.out], by rw [e2.out]; rfl, by go_num, KB.out.trans (hH.mono KB.out.size), HS5.out.to hH hH.size, HX5.out.on hH HX5.out.lt⟩
              case measure => simp [intOf]; omega
            · go_wp2
              go_quiet (fail)
              rename_i nq
              go_wp2
              go_roundw
              case rel => exact ⟨i + 1, by omega, by rw [e1.out], by rw [e2.out]; rfl, by go_num, below_drewN B5 nq, HS5.out, HX5.out⟩
              case measure => simp [intOf]; omega
          · by_cases hs3 : 3 = st
            · subst hs3
              have e1 := Lib.hid (ETN.out.trans (show _ = a by simp [nn]))
              have e2 := Lib.hid (ETL.out.trans (show _ = (u || ((xu == d.u) && (s' == d.s) && (k == d.d) && (h == d.h) && (n' == d.n) && decide (t = d.t))) by simp [tl, nn]))
              clear ETN ETL
              rcases u with _ | _
              · go_wp2
                have SB : Hid (∀ v, Below wr.heap.size wr v → Rq v b (off + i * 14) ⟨xf, ⟨3, pn, pb, vn, vb, xu, s', k, h, n', t, xq, xs⟩, xA, xc⟩ ∧ Cc v w3.heap.size d A3 c3) := Lib.hid (fun v g => ⟨HQ.out.on g hb, (HX5.out.on g HX5.out.lt).cc⟩)
                have BD : Hid (Below wr.heap.size wr wr.drew) := (Below.refl _ _).drew
                have KB := Lib.hid B5
                clear q0 q1 q2 q3 q4 q5 q6 q7 q8 q9 q10 q11 q12 q13 p0 p1 p2 p3 p4 p5 p6 p7 p8 B5
                refine wp_region_held_drew (S := fun v => Below wr.heap.size wr v) (by kernel_rfl) BD.out (fun hH => ?_)
                refine wpAnyH_take (i := 0) (v := ?v66) rfl (by kernel_rfl) (by kernel_rfl) (by kernel_rfl) (fun _ _ _ h => h) (Or.inl ⟨by rfl, ?hy66⟩) hH ?rest66
                case hy66 => (intro w hSw; (try dsimp only at hSw); go_simp; try with_reducible rfl)
                try simp only [Act.put, List.setIfInBounds_toArray, List.set_cons_zero, List.set_cons_succ, List.getElem_toArray, List.getElem_cons_zero]
                refine wpAnyH_take (i := 1) (v := ?v67) rfl (by kernel_rfl) (by kernel_rfl) (by kernel_rfl) (fun _ _ _ h => h) (Or.inl ⟨by rfl, ?hy67⟩) hH ?rest67
                case hy67 => (intro w hSw; (try dsimp only at hSw); go_simp; try with_reducible rfl)
                try simp only [Act.put, List.setIfInBounds_toArray, List.set_cons_zero, List.set_cons_succ, List.getElem_toArray, List.getElem_cons_zero, List.getElem_cons_succ]
                refine wpAnyH_take (i := 2) (v := ?v68) rfl (by kernel_rfl) (by kernel_rfl) (by kernel_rfl) (fun _ _ _ h => h) (Or.inl ⟨by rfl, ?hy68⟩) hH ?rest68
                case hy68 => (intro w hSw; (try dsimp only at hSw); go_simp; try with_reducible rfl)
                try simp only [Act.put, List.setIfInBounds_toArray, List.set_cons_zero, List.set_cons_succ, List.getElem_toArray, List.getElem_cons_zero, List.getElem_cons_succ]
                refine wpAnyH_take (i := 3) (v := ?v69) rfl (by kernel_rfl) (by kernel_rfl) (by kernel_rfl) (fun _ _ _ h => h) (Or.inl ⟨by rfl, ?hy69⟩) hH ?rest69
                case hy69 => (intro w hSw; (try dsimp only at hSw); go_simp; try with_reducible rfl)
                try simp only [Act.put, List.setIfInBounds_toArray, List.set_cons_zero, List.set_cons_succ, List.getElem_toArray, List.getElem_cons_zero, List.getElem_cons_succ]
                refine wpAnyH_take (i := 4) (v := ?v70) rfl (by kernel_rfl) (by kernel_rfl) (by kernel_rfl) (fun _ _ _ h => h) (Or.inl ⟨by rfl, ?hy70⟩) hH ?rest70
                case hy70 => (intro w hSw; (try dsimp only at hSw); go_simp; try with_reducible rfl)
                try simp only [Act.put, List.setIfInBounds_toArray, List.set_cons_zero, List.set_cons_succ, List.getElem_toArray, List.getElem_cons_zero, List.getElem_cons_succ]
                refine wpAnyH_take (i := 5) (v := ?v71) rfl (by kernel_rfl) (by kernel_rfl) (by kernel_rfl) (fun _ _ _ h => h) (Or.inl ⟨by rfl, ?hy71⟩) hH ?rest71
                case hy71 => (intro w hSw; (try dsimp only at hSw); go_simp; try with_reducible rfl)
                try simp only [Act.put, List.setIfInBounds_toArray, List.set_cons_zero, List.set_cons_succ, List.getElem_toArray, List.getElem_cons_zero, List.getElem_cons_succ]
                refine wpAnyH_take (i := 6) (v := ?v72) rfl (by kernel_rfl) (by kernel_rfl) (by kernel_rfl) (fun _ _ _ h => h) (Or.inl ⟨by rfl, ?hy72⟩) hH ?rest72
                case hy72 => (intro w hSw; (try dsimp only at hSw); go_simp; try with_reducible rfl)
                try simp only [Act.put, List.setIfInBounds_toArray, List.set_cons_zero, List.set_cons_succ, List.getElem_toArray, List.getElem_cons_zero, List.getElem_cons_succ]
                refine wpAnyH_take (i := 7) (v := ?v73) rfl (by kernel_rfl) (by kernel_rfl) (by kernel_rfl) (fun _ _ _ h => h) (Or.inl ⟨by rfl, ?hy73⟩) hH ?rest73
                case hy73 => (intro w hSw; (try dsimp only at hSw); obtain ⟨⟨q0, q1, q2, q3, q4, q5, q6, q7, q8, q9, q10, q11, q12, q13⟩, p0, p1, p2, p3, p4, p5, p6, p7, p8⟩ := SB.out w hSw; go_simp; try with_reducible rfl)
                try simp only [Act.put, List.setIfInBounds_toArray, List.set_cons_zero, List.set_cons_succ, List.getElem_toArray, List.getElem_cons_zero, List.getElem_cons_succ]
                refine wpAnyH_take (i := 8) (v := ?v74) rfl (by kernel_rfl) (by kernel_rfl) (by kernel_rfl) (fun _ _ _ h => h) (Or.inl ⟨by rfl, ?hy74⟩) hH ?rest74
                case hy74 => (intro w hSw; (try dsimp only at hSw); go_simp; try with_reducible rfl)
                try simp only [Act.put, List.setIfInBounds_toArray, List.set_cons_zero, List.set_cons_succ, List.getElem_toArray, List.getElem_cons_zero, List.getElem_cons_succ]
                refine wpAnyH_take (i := 9) (v := ?v75) rfl (by kernel_rfl) (by kernel_rfl) (by kernel_rfl) (fun _ _ _ h => h) (Or.inl ⟨by rfl, ?hy75⟩) hH ?rest75
                case hy75 => (intro w hSw; (try dsimp only at hSw); obtain ⟨⟨q0, q1, q2, q3, q4, q5, q6, q7, q8, q9, q10, q11, q12, q13⟩, p0, p1, p2, p3, p4, p5, p6, p7, p8⟩ := SB.out w hSw; go_simp; try with_reducible rfl)
                try simp only [Act.put, List.setIfInBounds_toArray, List.set_cons_zero, List.set_cons_succ, List.getElem_toArray, List.getElem_cons_zero, List.getElem_cons_succ]
                refine wpAnyH_take (i := 10) (v := ?v76) rfl (by kernel_rfl) (by kernel_rfl) (by kernel_rfl) (fun _ _ _ h => h) (Or.inl ⟨by rfl, ?hy76⟩) hH ?rest76
                case hy76 => (intro w hSw; (try dsimp only at hSw); go_simp; try with_reducible rfl)
                try simp only [Act.put, List.setIfInBounds_toArray, List.set_cons_zero, List.set_cons_succ, List.getElem_toArray, List.getElem_cons_zero, List.getElem_cons_succ]
                refine wpAnyH_take (i := 11) (v := ?v77) rfl (by kernel_rfl) (by kernel_rfl) (by kernel_rfl) (fun _ _ _ h => h) (Or.inl ⟨by rfl, ?hy77⟩) hH ?rest77
                case hy77 => (intro w hSw; (try dsimp only at hSw); go_simp; try with_reducible rfl)
                try simp only [Act.put, List.setIfInBounds_toArray, List.set_cons_zero, List.set_cons_succ, List.getElem_toArray, List.getElem_cons_zero, List.getElem_cons_succ]
                refine wpAnyH_take (i := 12) (v := ?v78) rfl (by kernel_rfl) (by kernel_rfl) (by kernel_rfl) (fun _ _ _ h => h) (Or.inl ⟨by rfl, ?hy78⟩) hH ?rest78
                case hy78 => (intro w hSw; (try dsimp only at hSw); go_simp; try with_reducible rfl)
                try simp only [Act.put, List.setIfInBounds_toArray, List.set_cons_zero, List.set_cons_succ, List.getElem_toArray, List.getElem_cons_zero, List.getElem_cons_succ]
                refine wpAnyH_done (by kernel_rfl) ?_ _
                go_wp2
                go_roundw
                case rel => exact ⟨i + 1, by omega, by rw [e1.out], by rw [e2.out]; rfl, by go_num, KB.out.trans (hH.mono KB.out.size), HS5.out.to hH hH.size, HX5.out.on hH HX5.out.lt⟩
                case measure => simp [intOf]; omega
              · go_wp2
                go_quiet (fail)
                rename_i nq
                go_wp2
                go_roundw
                case rel => exact ⟨i + 1, by omega, by rw [e1.out], by rw [e2.out]; rfl, by go_num, below_drewN B5 nq, HS5.out, HX5.out⟩
                case measure => simp [intOf]; omega
            · have hn1 : ¬ st = 1 := fun e => hs1 e.symm
              have hn2 : ¬ st = 2 := fun e => hs2 e.symm
              have hn3 : ¬ st = 3 := fun e => hs3 e.symm
              have e1 := Lib.hid (ETN.out.trans (show _ = a + 1 by simp [nn, hn1, hn2, hn3]))
              have e2 := Lib.hid (ETL.out.trans (show _ = u by simp [tl, nn, hn1, hn2, hn3]))
              have hb1 : (st != 1) = true := by simpa using hn1
              have hb2 : (st != 2) = true := by simpa using hn2
              have hb3 : (st != 3) = true := by simpa using hn3
              clear ETN ETL hs1 hs2 hs3
              go_wp2
              go_roundw
              case rel => exact ⟨i + 1, by omega, by rw [e1.out]; go_num, by rw [e2.out], by go_num, B5, HS5.out, HX5.out⟩
              case measure => simp [intOf]; omega
      · obtain rfl : i = L.length := by omega
        rw [List.take_length]
        have h4' := h4 wr
        obtain ⟨p0, p1, p2, p3, p4, p5, p6, p7, p8⟩ := id X5.cc
        generalize ((L.filter nn).length : Int) = a at *
        generalize L.any (tl d) = u at *
        by_cases hk4 : d.k = 4
        · obtain ⟨e9, hq⟩ := H1.out hk4
          subst e9
          clear H1 H2 h4 hk4
          go_wp2_with fail
          refine h4'.out.mono ?_
          rintro e w6 ⟨rfl, b6⟩
          have B6 := B5.trans (b6.mono B5.size)
          have X6 := X5.on b6 X5.lt
          clear h4' X5 B5 b6 p0 p1 p2 p3 p4 p5 p6 p7 p8
          obtain ⟨p0, p1, p2, p3, p4, p5, p6, p7, p8⟩ := id X6.cc
          go_wp2
          go_ret
          exact ⟨rfl, B6⟩
        · by_cases hk0 : d.k = 0
          · clear H1 H2 h4 h4'
            go_wp2
            go_ret
            exact ⟨by simp, B5⟩
          · have e9 := H2.out hk4 hk0
            subst e9
            clear H1 H2 h4 h4'
            go_wp2
            go_ret
            exact ⟨by simp, B5⟩

end Go.Proofs.Ytgmfjoegfbaebaa.Rg
