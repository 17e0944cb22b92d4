/-
  The walk of the law RegainFast: where all replicas pre-accepted the same at the first ballot, whatever a quorum of them tells is taken as just that. No conditions.
-/
import Derived.Test.YtgmfjoegfbaebaaRgPt
import Derived.Deep.RegionHeld3
import Derived.Deep.QuietTactic
namespace Go.Proofs.Ytgmfjoegfbaebaa.Rg
open Go.RowKit In
set_option linter.unusedVariables false
attribute [local go_sem ↓ high] Ba.eq23 Ba.guard23 Ba.neq23 Ba.guard23n eqc guardc neqc guardcn

set_option maxHeartbeats 2000000 in
theorem lfast_any (n o : Int) (A : Option Addr) (c : Nat) (L : List Rp) (A' : Option Addr) (c' : Nat) (bs : List Bool) (w : World) (hs : Ls w w.heap.size A L) (hb : Bo w w.heap.size A' bs) : Calls Try.prog 4 #[.int .i64 n, .int .i64 o, .slice A L.length c, .slice A' bs.length c'] w (UpPost w) := by
  have HA : Hid (Calls Try.prog 8 #[] w (UpPost w)) := awake_any w
  have HF : ∀ V, Ls V V.heap.size A L → Hid (Calls Try.prog 9 #[.slice A L.length c] V (BoolPost V (fw L))) := fun V g => few_any A c L V g
  rcases hf : fw L with _ | _
  · rw [hf] at HF
    go_enter Try.func4, Try.ntmps4
    go_wp2_with fail
    refine HA.out.mono ?_
    rintro e w1 ⟨rfl, b1⟩
    have S1 := hs.to b1 b1.size
    clear HA
    go_wp2_with fail
    refine (HF w1 S1).out.mono ?_
    rintro e w2 ⟨rfl, b2⟩
    have B2 := b1.trans (b2.mono b1.size)
    clear HF S1 b1 b2
    go_wp2
    go_ret
    exact ⟨rfl, B2⟩
  · rw [hf] at HF
    have hk := fw_few hf
    have hfw := Few.le hk.1 hk.2
    by_cases hn1 : n < 1
    · clear hf hk hfw
      go_enter Try.func4, Try.ntmps4
      go_wp2_with fail
      refine HA.out.mono ?_
      rintro e w1 ⟨rfl, b1⟩
      have S1 := hs.to b1 b1.size
      clear HA
      go_wp2_with fail
      refine (HF w1 S1).out.mono ?_
      rintro e w2 ⟨rfl, b2⟩
      have B2 := b1.trans (b2.mono b1.size)
      have S2 := S1.to b2 b2.size
      clear HF S1 b1 b2
      go_wp2
      go_ret
      exact ⟨rfl, B2⟩
    by_cases hn7 : 7 < n
    · clear hf hk hfw
      go_enter Try.func4, Try.ntmps4
      go_wp2_with fail
      refine HA.out.mono ?_
      rintro e w1 ⟨rfl, b1⟩
      have S1 := hs.to b1 b1.size
      clear HA
      go_wp2_with fail
      refine (HF w1 S1).out.mono ?_
      rintro e w2 ⟨rfl, b2⟩
      have B2 := b1.trans (b2.mono b1.size)
      have S2 := S1.to b2 b2.size
      clear HF S1 b1 b2
      go_wp2
      go_ret
      exact ⟨rfl, B2⟩
    by_cases hln : (L.length : Int) = n
    rotate_left
    · clear hf hk hfw
      have hln2 : ((L.length : Int) != n) = true := by simpa using hln
      go_enter Try.func4, Try.ntmps4
      go_wp2_with fail
      refine HA.out.mono ?_
      rintro e w1 ⟨rfl, b1⟩
      have S1 := hs.to b1 b1.size
      clear HA
      go_wp2_with fail
      refine (HF w1 S1).out.mono ?_
      rintro e w2 ⟨rfl, b2⟩
      have B2 := b1.trans (b2.mono b1.size)
      have S2 := S1.to b2 b2.size
      clear HF S1 b1 b2
      go_wp2
      go_ret
      exact ⟨rfl, B2⟩
    subst hln
    have hm : am ((L.length : Nat) : Int) = L.length := by have := am_in (n := (L.length : Int)) (by omega) (by omega); omega
    have h0l : 0 < L.length := by omega
    have h6 : ∀ V, Ls V V.heap.size A L → Hid (Calls Try.prog 15 #[.int .i64 (L.length : Int), .int .i64 o, .slice A L.length c] V (BoolPost V (fs o L.length (ct L L.length)))) := fun V g => by
      have := Fast_any (L.length : Int) o A c L hfw V g
      rw [hm] at this
      exact this
    have hln2 : ((L.length : Int) != (L.length : Int)) = false := by simp
    rcases hF : fs o L.length (ct L L.length) with _ | _
    · rw [hF] at h6
      clear hf hk hfw
      go_enter Try.func4, Try.ntmps4
      go_wp2_with fail
      refine HA.out.mono ?_
      rintro e w1 ⟨rfl, b1⟩
      have S1 := hs.to b1 b1.size
      clear HA
      go_wp2_with fail
      refine (HF w1 S1).out.mono ?_
      rintro e w2 ⟨rfl, b2⟩
      have B2 := b1.trans (b2.mono b1.size)
      have S2 := S1.to b2 b2.size
      clear HF S1 b1 b2
      go_wp2_with fail
      refine (h6 w2 S2).out.mono ?_
      rintro e w3 ⟨rfl, b3⟩
      have B3 := B2.trans (b3.mono B2.size)
      clear h6
      go_wp2
      go_ret
      exact ⟨rfl, B3⟩
    · rw [hF] at h6
      have hsub := pk_sub L bs (min L.length bs.length)
      have FT := Lib.hid (fast_takes hsub hF rfl h0l)
      have hpf : Few (pk L bs (min L.length bs.length)) := ⟨Nat.le_trans hsub.length_le hfw.1, fun x hx => hfw.2 x (hsub.subset hx)⟩
      have hpl : (pk L bs (min L.length bs.length)).length ≤ L.length := hsub.length_le
      have hP : ∀ V, Ls V V.heap.size A L → Bo V V.heap.size A' bs → Hid (Calls Try.prog 17 #[.slice A L.length c, .slice A' bs.length c'] V (CtPost V (pk L bs (min L.length bs.length)))) := fun V g g' => part_any A c L A' c' bs hfw.1 V g g'
      generalize pk L bs (min L.length bs.length) = p at *
      have h1 : ∀ V A5 c5, Ls V V.heap.size A5 p → Hid (Calls Try.prog 11 #[.int .i64 (L.length : Int), .int .i64 o, .slice A5 p.length c5] V (ChP V (dc o L.length (ct p L.length)))) := fun V A5 c5 g => by
        have := Decide_any (L.length : Int) o A5 c5 p hpf V g
        rw [hm] at this
        exact this
      have h4 : ∀ V, Hid (Calls Try.prog 13 #[.int .i64 (L.length : Int)] V (IntP V (qu L.length))) := fun V => by
        have := Quorum_any (L.length : Int) V
        rw [hm] at this
        exact this
      have hdl : (dc o L.length (ct p L.length)).xs.length ≤ 1000 := dc_len hpf.2
      have hL0 : L[0].r.xs.length ≤ 1000 := hfw.2 _ (List.getElem_mem h0l)
      have hqe : qu L.length = L.length / 2 + 1 := rfl
      generalize dc o L.length (ct p L.length) = d at *
      clear hf hk hfw hF hpf hsub hm
      go_enter Try.func4, Try.ntmps4
      go_wp2_with fail
      refine HA.out.mono ?_
      rintro e w1 ⟨rfl, b1⟩
      have S1 := hs.to b1 b1.size
      clear HA
      go_wp2_with fail
      refine (HF w1 S1).out.mono ?_
      rintro e w2 ⟨rfl, b2⟩
      have B2 := b1.trans (b2.mono b1.size)
      have S2 := S1.to b2 b2.size
      clear HF S1 b1 b2
      have W2 := hb.to B2 B2.size
      go_wp2_with fail
      refine (h6 w2 S2).out.mono ?_
      rintro e w3 ⟨rfl, b3⟩
      have B3 := B2.trans (b3.mono B2.size)
      have S3 := S2.to b3 b3.size
      have W3 := W2.to b3 b3.size
      clear h6 S2 B2 W2 b3
      go_wp2_with fail
      refine (hP w3 S3 W3).out.mono ?_
      rintro e w4 ⟨A4, c4, rfl, P4, b4⟩
      have B4 := B3.trans (b4.mono B3.size)
      have S4 := S3.to b4 b4.size
      clear hP S3 B3 W3 b4
      go_wp2_with fail
      refine (h1 w4 A4 c4 P4).out.mono ?_
      rintro e w5 ⟨A5, c5, rfl, f5, b5⟩
      have B5 := B4.trans (b5.mono B4.size)
      have S5 := S4.to b5 b5.size
      clear h1 S4 B4 P4 b5
      have b6 : Below w5.heap.size w5 (w5.alloc (.cells (chc d A5 c5) 32)) := (Below.refl _ _).alloc (Nat.le_refl _) _
      have X6 := cx_new w5 d A5 c5
      have f6 := f5.on b6
      have B6 := B5.trans (b6.mono B5.size)
      have S6 := S5.to b6 b6.size
      clear S5 B5 b6 f5
      have h4' := h4 (w5.alloc (.cells (chc d A5 c5) 32))
      have l6 := X6.lt
      clear h4
      go_wp2_with fail
      generalize w5.alloc (.cells (chc d A5 c5) 32) = w6 at *
      refine h4'.out.mono ?_
      rintro e w7 ⟨rfl, b7⟩
      have X7 := X6.on b7 X6.lt
      have f7 := f6.on b7
      have B7 := B6.trans (b7.mono B6.size)
      have S7 := S6.to b7 b7.size
      clear h4' S6 B6 X6 b7 f6
      obtain ⟨p0, p1, p2, p3, p4, p5, p6, p7, p8⟩ := id X7.cc
      by_cases hq : p.length < L.length / 2 + 1
      · have hqi : (p.length : Int) < ((qu L.length : Nat) : Int) := by omega
        have E9 := Lib.hid (FT.out.1 hq)
        clear FT hq hqe
        go_wp2
        go_ret
        exact ⟨by simp [E9.out], B7⟩
      · have hqi : ¬ (p.length : Int) < ((qu L.length : Nat) : Int) := by omega
        obtain ⟨e1, ⟨e2, e3, e4, e5, e6, e7⟩, e8⟩ := FT.out.2 hq
        clear FT hq hqe
        obtain ⟨b, off, hA, hbB, hq0, hx0⟩ := S7.at_ h0l
        rw [show off + 0 * 14 = off by omega] at hq0
        generalize L[0] = x at *
        subst hA
        have E8 := Lib.hid e8
        have E2 := Lib.hid (show ((d.u == x.r.u) && (d.s == x.r.s) && (d.d == x.r.k) && (d.h == x.r.h) && (d.n == x.r.n) && decide (d.t = x.r.t)) = true by simp [e2, e3, e4, e5, e6, e7])
        clear e8 e2 e3 e4 e5 e6 e7
        have E1 := Lib.hid e1
        clear e1
        go_wp2
        have C1 : ∀ V, Below w7.heap.size w7 V → Hid (Calls Try.prog 18 #[.agg #[.int .i64 d.q, .slice A5 d.xs.length c5], .agg #[.int .i64 x.r.q, .slice x.A x.r.xs.length x.c]] V (At.BoolPost V true)) := fun V g => by
          have := At.rsame_any d.q x.r.q A5 x.A c5 x.c d.xs x.r.xs V (f7.sl.to g g.size) (hx0.to g g.size) hdl hL0
          rw [E8.out] at this
          exact this
        have SB : Hid (∀ v, Below w7.heap.size w7 v → Cc v w5.heap.size d A5 c5 ∧ Rq v b off x) := Lib.hid (fun v g => ⟨(X7.on g X7.lt).cc, hq0.on g hbB⟩)
        have BD : Hid (Below w7.heap.size w7 w7.drew) := (Below.refl _ _).drew
        have HB := Lib.hid B7
        have HX := Lib.hid X7
        have HQ := Lib.hid hq0
        clear B7 X7 hq0 S7 hx0 f7 p0 p1 p2 p3 p4 p5 p6 p7 p8
        refine wp_region_held_drew (S := fun v => Below w7.heap.size w7 v) (by kernel_rfl) BD.out (fun hH => ?_)
        refine wpAnyH_take (i := 0) (v := ?v79) rfl (by kernel_rfl) (by kernel_rfl) (by kernel_rfl) (fun _ _ _ h => h) (Or.inl ⟨by rfl, ?hy79⟩) hH ?rest79
        case hy79 => (intro w hSw; (try dsimp only at hSw); go_simp; try with_reducible rfl)
        try simp only [Act.put, List.setIfInBounds_toArray, List.set_cons_zero, List.set_cons_succ, List.getElem_toArray, List.getElem_cons_zero]
        refine wpAnyH_take (i := 1) (v := ?v80) rfl (by kernel_rfl) (by kernel_rfl) (by kernel_rfl) (fun _ _ _ h => h) (Or.inl ⟨by rfl, ?hy80⟩) hH ?rest80
        case hy80 => (intro w hSw; (try dsimp only at hSw); obtain ⟨⟨p0, p1, p2, p3, p4, p5, p6, p7, p8⟩, ⟨q0, q1, q2, q3, q4, q5, q6, q7, q8, q9, q10, q11, q12, q13⟩⟩ := SB.out w hSw; go_simp; try with_reducible rfl)
        try simp only [Act.put, List.setIfInBounds_toArray, List.set_cons_zero, List.set_cons_succ, List.getElem_toArray, List.getElem_cons_zero, List.getElem_cons_succ]
        refine wpAnyH_take (i := 2) (v := ?v81) rfl (by kernel_rfl) (by kernel_rfl) (by kernel_rfl) (fun _ _ _ h => h) (Or.inl ⟨by rfl, ?hy81⟩) hH ?rest81
        case hy81 => (intro w hSw; (try dsimp only at hSw); go_simp; try with_reducible rfl)
        try simp only [Act.put, List.setIfInBounds_toArray, List.set_cons_zero, List.set_cons_succ, List.getElem_toArray, List.getElem_cons_zero, List.getElem_cons_succ]
        refine wpAnyH_take (i := 3) (v := ?v82) rfl (by kernel_rfl) (by kernel_rfl) (by kernel_rfl) (fun _ _ _ h => h) (Or.inl ⟨by rfl, ?hy82⟩) hH ?rest82
        case hy82 => (intro w hSw; (try dsimp only at hSw); go_simp; try with_reducible rfl)
        try simp only [Act.put, List.setIfInBounds_toArray, List.set_cons_zero, List.set_cons_succ, List.getElem_toArray, List.getElem_cons_zero, List.getElem_cons_succ]
        refine wpAnyH_take (i := 4) (v := ?v83) rfl (by kernel_rfl) (by kernel_rfl) (by kernel_rfl) (fun _ _ _ h => h) (Or.inl ⟨by rfl, ?hy83⟩) hH ?rest83
        case hy83 => (intro w hSw; (try dsimp only at hSw); go_simp; try with_reducible rfl)
        try simp only [Act.put, List.setIfInBounds_toArray, List.set_cons_zero, List.set_cons_succ, List.getElem_toArray, List.getElem_cons_zero, List.getElem_cons_succ]
        refine wpAnyH_take (i := 5) (v := ?v84) rfl (by kernel_rfl) (by kernel_rfl) (by kernel_rfl) (fun _ _ _ h => h) (Or.inl ⟨by rfl, ?hy84⟩) hH ?rest84
        case hy84 => (intro w hSw; (try dsimp only at hSw); go_simp; try with_reducible rfl)
        try simp only [Act.put, List.setIfInBounds_toArray, List.set_cons_zero, List.set_cons_succ, List.getElem_toArray, List.getElem_cons_zero, List.getElem_cons_succ]
        refine wpAnyH_take (i := 6) (v := ?v85) rfl (by kernel_rfl) (by kernel_rfl) (by kernel_rfl) (fun _ _ _ h => h) (Or.inl ⟨by rfl, ?hy85⟩) hH ?rest85
        case hy85 => (intro w hSw; (try dsimp only at hSw); obtain ⟨⟨p0, p1, p2, p3, p4, p5, p6, p7, p8⟩, ⟨q0, q1, q2, q3, q4, q5, q6, q7, q8, q9, q10, q11, q12, q13⟩⟩ := SB.out w hSw; go_simp; try with_reducible rfl)
        try simp only [Act.put, List.setIfInBounds_toArray, List.set_cons_zero, List.set_cons_succ, List.getElem_toArray, List.getElem_cons_zero, List.getElem_cons_succ]
        refine wpAnyH_ready (rs := [7]) (by kernel_rfl) (by simp) ?_
        refine AllReadyH.cons rfl (fun K hK => ?_) AllReadyH.nil
        go_simp
        go_at_call 18
        with_reducible refine (C1 _ hH).out.mono ?_
        rintro e wq86 ⟨rfl, bq86⟩
        go_wp2_with fail
        refine hK.out _ _ (hH.trans (bq86.mono hH.size)) (fun hH2 => ?_)
        clear hK K hH
        have hH := hH2
        clear hH2
        try simp only [Act.put, List.setIfInBounds_toArray, List.set_cons_zero, List.set_cons_succ, List.getElem_toArray, List.getElem_cons_zero, List.getElem_cons_succ]
        refine wpAnyH_take (i := 8) (v := ?v87) rfl (by kernel_rfl) (by kernel_rfl) (by kernel_rfl) (fun _ _ _ h => h) (Or.inl ⟨by rfl, ?hy87⟩) hH ?rest87
        case hy87 => (intro w hSw; (try dsimp only at hSw); go_simp; try with_reducible rfl)
        try simp only [Act.put, List.setIfInBounds_toArray, List.set_cons_zero, List.set_cons_succ, List.getElem_toArray, List.getElem_cons_zero, List.getElem_cons_succ]
        refine wpAnyH_done (by kernel_rfl) ?_ _
        have KB := Lib.hid (HB.out.trans (hH.mono HB.out.size))
        have KX := HX.out.on hH HX.out.lt
        have KQ := HQ.out.on hH hbB
        have bl9 : b < wq86.heap.size := by have := hH.size; omega
        have K1 : Cc wq86 w5.heap.size d A5 c5 := KX.cc
        have kk := E1.out
        clear HB HX HQ SB BD C1 hH
        generalize wq86 = w8 at *
        have SB : Hid (∀ v, Below w8.heap.size w8 v → Cc v w5.heap.size d A5 c5 ∧ Rq v b off x) := Lib.hid (fun v g => ⟨(KX.on g KX.lt).cc, KQ.on g bl9⟩)
        have BD : Hid (Below w8.heap.size w8 w8.drew) := (Below.refl _ _).drew
        have kc := E2.out
        clear KX KQ K1
        go_wp2
        refine wp_region_held_drew (S := fun v => Below w8.heap.size w8 v) (by kernel_rfl) BD.out (fun hH => ?_)
        refine wpAnyH_take (i := 0) (v := ?v88) rfl (by kernel_rfl) (by kernel_rfl) (by kernel_rfl) (fun _ _ _ h => h) (Or.inl ⟨by rfl, ?hy88⟩) hH ?rest88
        case hy88 => (intro w hSw; (try dsimp only at hSw); go_simp; try with_reducible rfl)
        try simp only [Act.put, List.setIfInBounds_toArray, List.set_cons_zero, List.set_cons_succ, List.getElem_toArray, List.getElem_cons_zero]
        refine wpAnyH_take (i := 1) (v := ?v89) rfl (by kernel_rfl) (by kernel_rfl) (by kernel_rfl) (fun _ _ _ h => h) (Or.inl ⟨by rfl, ?hy89⟩) hH ?rest89
        case hy89 => (intro w hSw; (try dsimp only at hSw); obtain ⟨⟨p0, p1, p2, p3, p4, p5, p6, p7, p8⟩, ⟨q0, q1, q2, q3, q4, q5, q6, q7, q8, q9, q10, q11, q12, q13⟩⟩ := SB.out w hSw; go_simp; try with_reducible rfl)
        try simp only [Act.put, List.setIfInBounds_toArray, List.set_cons_zero, List.set_cons_succ, List.getElem_toArray, List.getElem_cons_zero, List.getElem_cons_succ]
        refine wpAnyH_take (i := 2) (v := ?v90) rfl (by kernel_rfl) (by kernel_rfl) (by kernel_rfl) (fun _ _ _ h => h) (Or.inl ⟨by rfl, ?hy90⟩) hH ?rest90
        case hy90 => (intro w hSw; (try dsimp only at hSw); go_simp; try with_reducible rfl)
        try simp only [Act.put, List.setIfInBounds_toArray, List.set_cons_zero, List.set_cons_succ, List.getElem_toArray, List.getElem_cons_zero, List.getElem_cons_succ]
        refine wpAnyH_take (i := 3) (v := ?v91) rfl (by kernel_rfl) (by kernel_rfl) (by kernel_rfl) (fun _ _ _ h => h) (Or.inl ⟨by rfl, ?hy91⟩) hH ?rest91
        case hy91 => (intro w hSw; (try dsimp only at hSw); go_simp; try with_reducible rfl)
        try simp only [Act.put, List.setIfInBounds_toArray, List.set_cons_zero, List.set_cons_succ, List.getElem_toArray, List.getElem_cons_zero, List.getElem_cons_succ]
        refine wpAnyH_take (i := 4) (v := ?v92) rfl (by kernel_rfl) (by kernel_rfl) (by kernel_rfl) (fun _ _ _ h => h) (Or.inl ⟨by rfl, ?hy92⟩) hH ?rest92
        case hy92 => (intro w hSw; (try dsimp only at hSw); go_simp; try with_reducible rfl)
        try simp only [Act.put, List.setIfInBounds_toArray, List.set_cons_zero, List.set_cons_succ, List.getElem_toArray, List.getElem_cons_zero, List.getElem_cons_succ]
        refine wpAnyH_take (i := 5) (v := ?v93) rfl (by kernel_rfl) (by kernel_rfl) (by kernel_rfl) (fun _ _ _ h => h) (Or.inl ⟨by rfl, ?hy93⟩) hH ?rest93
        case hy93 => (intro w hSw; (try dsimp only at hSw); obtain ⟨⟨p0, p1, p2, p3, p4, p5, p6, p7, p8⟩, ⟨q0, q1, q2, q3, q4, q5, q6, q7, q8, q9, q10, q11, q12, q13⟩⟩ := SB.out w hSw; go_simp; try with_reducible rfl)
        try simp only [Act.put, List.setIfInBounds_toArray, List.set_cons_zero, List.set_cons_succ, List.getElem_toArray, List.getElem_cons_zero, List.getElem_cons_succ]
        refine wpAnyH_take (i := 6) (v := ?v94) rfl (by kernel_rfl) (by kernel_rfl) (by kernel_rfl) (fun _ _ _ h => h) (Or.inl ⟨by rfl, ?hy94⟩) hH ?rest94
        case hy94 => (intro w hSw; (try dsimp only at hSw); go_simp; try with_reducible rfl)
        try simp only [Act.put, List.setIfInBounds_toArray, List.set_cons_zero, List.set_cons_succ, List.getElem_toArray, List.getElem_cons_zero, List.getElem_cons_succ]
        refine wpAnyH_take (i := 7) (v := ?v95) rfl (by kernel_rfl) (by kernel_rfl) (by kernel_rfl) (fun _ _ _ h => h) (Or.inl ⟨by rfl, ?hy95⟩) hH ?rest95
        case hy95 => (intro w hSw; (try dsimp only at hSw); go_simp; try with_reducible rfl)
        try simp only [Act.put, List.setIfInBounds_toArray, List.set_cons_zero, List.set_cons_succ, List.getElem_toArray, List.getElem_cons_zero, List.getElem_cons_succ]
        refine wpAnyH_take (i := 8) (v := ?v96) rfl (by kernel_rfl) (by kernel_rfl) (by kernel_rfl) (fun _ _ _ h => h) (Or.inl ⟨by rfl, ?hy96⟩) hH ?rest96
        case hy96 => (intro w hSw; (try dsimp only at hSw); go_simp; try with_reducible rfl)
        try simp only [Act.put, List.setIfInBounds_toArray, List.set_cons_zero, List.set_cons_succ, List.getElem_toArray, List.getElem_cons_zero, List.getElem_cons_succ]
        refine wpAnyH_take (i := 9) (v := ?v97) rfl (by kernel_rfl) (by kernel_rfl) (by kernel_rfl) (fun _ _ _ h => h) (Or.inl ⟨by rfl, ?hy97⟩) hH ?rest97
        case hy97 => (intro w hSw; (try dsimp only at hSw); go_simp; try with_reducible rfl)
        try simp only [Act.put, List.setIfInBounds_toArray, List.set_cons_zero, List.set_cons_succ, List.getElem_toArray, List.getElem_cons_zero, List.getElem_cons_succ]
        refine wpAnyH_take (i := 10) (v := ?v98) rfl (by kernel_rfl) (by kernel_rfl) (by kernel_rfl) (fun _ _ _ h => h) (Or.inl ⟨by rfl, ?hy98⟩) hH ?rest98
        case hy98 => (intro w hSw; (try dsimp only at hSw); obtain ⟨⟨p0, p1, p2, p3, p4, p5, p6, p7, p8⟩, ⟨q0, q1, q2, q3, q4, q5, q6, q7, q8, q9, q10, q11, q12, q13⟩⟩ := SB.out w hSw; go_simp; try with_reducible rfl)
        try simp only [Act.put, List.setIfInBounds_toArray, List.set_cons_zero, List.set_cons_succ, List.getElem_toArray, List.getElem_cons_zero, List.getElem_cons_succ]
        refine wpAnyH_take (i := 11) (v := ?v99) rfl (by kernel_rfl) (by kernel_rfl) (by kernel_rfl) (fun _ _ _ h => h) (Or.inl ⟨by rfl, ?hy99⟩) hH ?rest99
        case hy99 => (intro w hSw; (try dsimp only at hSw); go_simp; try with_reducible rfl)
        try simp only [Act.put, List.setIfInBounds_toArray, List.set_cons_zero, List.set_cons_succ, List.getElem_toArray, List.getElem_cons_zero, List.getElem_cons_succ]
        refine wpAnyH_take (i := 12) (v := ?v100) rfl (by kernel_rfl) (by kernel_rfl) (by kernel_rfl) (fun _ _ _ h => h) (Or.inl ⟨by rfl, ?hy100⟩) hH ?rest100
        case hy100 => (intro w hSw; (try dsimp only at hSw); go_simp; try with_reducible rfl)
        try simp only [Act.put, List.setIfInBounds_toArray, List.set_cons_zero, List.set_cons_succ, List.getElem_toArray, List.getElem_cons_zero, List.getElem_cons_succ]
        refine wpAnyH_take (i := 13) (v := ?v101) rfl (by kernel_rfl) (by kernel_rfl) (by kernel_rfl) (fun _ _ _ h => h) (Or.inl ⟨by rfl, ?hy101⟩) hH ?rest101
        case hy101 => (intro w hSw; (try dsimp only at hSw); go_simp; try with_reducible rfl)
        try simp only [Act.put, List.setIfInBounds_toArray, List.set_cons_zero, List.set_cons_succ, List.getElem_toArray, List.getElem_cons_zero, List.getElem_cons_succ]
        refine wpAnyH_take (i := 14) (v := ?v102) rfl (by kernel_rfl) (by kernel_rfl) (by kernel_rfl) (fun _ _ _ h => h) (Or.inl ⟨by rfl, ?hy102⟩) hH ?rest102
        case hy102 => (intro w hSw; (try dsimp only at hSw); go_simp; try with_reducible rfl)
        try simp only [Act.put, List.setIfInBounds_toArray, List.set_cons_zero, List.set_cons_succ, List.getElem_toArray, List.getElem_cons_zero, List.getElem_cons_succ]
        refine wpAnyH_take (i := 15) (v := ?v103) rfl (by kernel_rfl) (by kernel_rfl) (by kernel_rfl) (fun _ _ _ h => h) (Or.inl ⟨by rfl, ?hy103⟩) hH ?rest103
        case hy103 => (intro w hSw; (try dsimp only at hSw); go_simp; try with_reducible rfl)
        try simp only [Act.put, List.setIfInBounds_toArray, List.set_cons_zero, List.set_cons_succ, List.getElem_toArray, List.getElem_cons_zero, List.getElem_cons_succ]
        refine wpAnyH_take (i := 16) (v := ?v104) rfl (by kernel_rfl) (by kernel_rfl) (by kernel_rfl) (fun _ _ _ h => h) (Or.inl ⟨by rfl, ?hy104⟩) hH ?rest104
        case hy104 => (intro w hSw; (try dsimp only at hSw); go_simp; try with_reducible rfl)
        try simp only [Act.put, List.setIfInBounds_toArray, List.set_cons_zero, List.set_cons_succ, List.getElem_toArray, List.getElem_cons_zero, List.getElem_cons_succ]
        refine wpAnyH_done (by kernel_rfl) ?_ _
        trace_state
        go_wp2
        go_ret
        exact ⟨rfl, KB.out.trans (hH.mono KB.out.size)⟩

end Go.Proofs.Ytgmfjoegfbaebaa.Rg
