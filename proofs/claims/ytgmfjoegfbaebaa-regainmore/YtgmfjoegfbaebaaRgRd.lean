/-
  The walk of the document's Decide. Conditions: at most 200 reports of at most 1000 deps.
-/
import Derived.Test.YtgmfjoegfbaebaaRgRs
import Derived.Test.YtgmfjoegfbaebaaRgTk
namespace Go.Proofs.Ytgmfjoegfbaebaa.Rg
open Go.RowKit In
set_option linter.unusedVariables false
attribute [local go_sem ↓ high] Ba.eq23 Ba.guard23 Ba.neq23 Ba.guard23n eqc guardc neqc guardcn

theorem dc_done {o : Int} {n : Nat} {l : List Rp} {x : Rp} (h : dn l = some x) : dc o n l = cw 1 x.r := by unfold dc; rw [h]
theorem dc_wait {o : Int} {n : Nat} {l : List Rp} (h : dn l = none) (h1 : l.length < n / 2 + 1) : dc o n l = c0 := by unfold dc; rw [h]; exact if_pos h1
theorem dc_take {o : Int} {n : Nat} {l : List Rp} {a : Rp} (h : dn l = none) (h1 : ¬ l.length < n / 2 + 1) (h2 : tk l = some a) : dc o n l = cw 2 a.r := by unfold dc; rw [h, h2]; exact if_neg h1
theorem dc_first {o : Int} {n : Nat} {l : List Rp} {a : Rp} (h : dn l = none) (h1 : ¬ l.length < n / 2 + 1) (h2 : tk l = none) (h3 : ag o l = some a) : dc o n l = cw 2 a.r := by unfold dc; rw [h, h2, h3]; exact if_neg h1
theorem dc_again {o : Int} {n : Nat} {l : List Rp} {a : Rp} (h : dn l = none) (h1 : ¬ l.length < n / 2 + 1) (h2 : tk l = none) (h3 : ag o l = none) (h4 : gt 1 l = some a) : dc o n l = c3 a.r := by unfold dc; rw [h, h2, h3, h4]; exact if_neg h1
theorem dc_fill {o : Int} {n : Nat} {l : List Rp} (h : dn l = none) (h1 : ¬ l.length < n / 2 + 1) (h2 : tk l = none) (h3 : ag o l = none) (h4 : gt 1 l = none) : dc o n l = c4 := by unfold dc; rw [h, h2, h3, h4]; exact if_neg h1
theorem dn_none {l : List Rp} (h : ∀ j, (hj : j < l.length) → l[j].r.st ≠ 3) : dn l = none := by
  unfold dn
  rw [List.find?_eq_none]
  intro x hx
  obtain ⟨j, hj, rfl⟩ := List.mem_iff_getElem.1 hx
  simpa using h j hj
theorem dn_at {l : List Rp} {k : Nat} (hk : k < l.length) (h : l[k].r.st = 3) (hf : ∀ j, (hj : j < k) → l[j].r.st ≠ 3) : dn l = some l[k] := by
  unfold dn
  rw [List.find?_eq_some_iff_getElem]
  exact ⟨by simpa using h, k, hk, rfl, fun j hj => by simpa using hf j hj⟩
theorem ag_head {o : Int} {l : List Rp} (h0 : 0 < l.length) (h : fr o l = true) : ag o l = some l[0] := by
  rcases l with _ | ⟨x, t⟩
  · simp at h0
  · unfold fr at h
    rcases ha : ag o (x :: t) with _ | y
    · rw [ha] at h; cases h
    · rw [ag_cons] at ha
      split at ha
      · cases ha; rfl
      · cases ha
theorem ag_no {o : Int} {l : List Rp} (h : fr o l = false) : ag o l = none := by
  unfold fr at h
  rcases ha : ag o l with _ | y
  · rfl
  · rw [ha] at h; simp at h
/-- What the document's Decide gave: a choice whose deps are a report's. -/
def DcP (w : World) (x : Ch) (e : Ending) (w' : World) : Prop := ∃ A c, e = .returned (chv x A c) ∧ At.Sl w' w'.heap.size .i64 A x.xs ∧ Below w.heap.size w w'
theorem run_rdec {V : World} {tm : Array Value} {B : Nat} {x : Ch} {A : Option Addr} {c : Nat} (h2 : tm[6]?.getD undef = .pointer (some ⟨B, 0, none⟩)) (hb : Cx V B x A c) :
    (results Try.f12 tm).run Try.prog V = .ok (chv x A c) V := by
  obtain ⟨c0, c1, c2, c3, c4, c5, c6, c7, c8⟩ := hb.cc
  simp [results, Try.f12, go_sem, h2, c0, c1, c2, c3, c4, c5, c6, c7, c8]
theorem cx_drew {w : World} {B : Nat} {x : Ch} {A : Option Addr} {c : Nat} (h : Cx w B x A c) : Cx w.drew B x A c := h

set_option maxHeartbeats 2000000 in
theorem rDecide_any (n o : Int) (A : Option Addr) (c : Nat) (L : List Rp) (hl : Few L) (w : World) (hs : Ls w w.heap.size A L) :
    Calls Try.prog 12 #[.int .i64 n, .int .i64 o, .slice A L.length c] w (DcP w (dc o (am n) (ct L (am n)))) := by
  have B0 : Below w.heap.size w (w.alloc (.cells #[.int .i64 0, .int .i64 0, .int .i64 0, .int .i64 0, .int .i64 0, .int .i64 0, .string ⟨#[]⟩, .int .i64 0, .slice none 0 0] 32)) := (Below.refl _ _).alloc (Nat.le_refl _) _
  have Z0 := cx_zero w
  have HC : Hid (Calls Try.prog 25 #[.int .i64 n, .slice A L.length c] (w.alloc (.cells #[.int .i64 0, .int .i64 0, .int .i64 0, .int .i64 0, .int .i64 0, .int .i64 0, .string ⟨#[]⟩, .int .i64 0, .slice none 0 0] 32)) (CtPost (w.alloc (.cells #[.int .i64 0, .int .i64 0, .int .i64 0, .int .i64 0, .int .i64 0, .int .i64 0, .string ⟨#[]⟩, .int .i64 0, .slice none 0 0] 32)) (ct L (am n)))) := rCount_any n A c L hl.1 _ (hs.to B0 B0.size)
  have HQ : ∀ V, Hid (Calls Try.prog 14 #[.int .i64 n] V (IntP V (qu (am n)))) := fun V => rQuorum_any n V
  have HSL : Hid (∀ x ∈ ct L (am n), At.Sl w w.heap.size .i64 x.A x.r.xs) := Lib.hid (fun x hx => hs.of (ct_mem hx))
  have hf : Few (ct L (am n)) := ⟨Nat.le_trans (ct_len _ _) (Nat.le_trans (am_le n) (by omega)), fun x hx => hl.2 x (ct_mem hx)⟩
  generalize am n = m at *
  generalize ct L m = l at *
  generalize hd : dc o m l = d at *
  have HD := Lib.hid hd.symm
  clear hd
  go_enter Try.func12, Try.ntmps12
  go_wp2_with fail
  generalize w.alloc (.cells #[.int .i64 0, .int .i64 0, .int .i64 0, .int .i64 0, .int .i64 0, .int .i64 0, .string ⟨#[]⟩, .int .i64 0, .slice none 0 0] 32) = w0 at *
  refine HC.out.mono ?_
  rintro e w1 ⟨A1, c1, rfl, S1, b1⟩
  have Z1 := Z0.on b1 Z0.lt
  have B1 := B0.trans (b1.mono B0.size)
  have HS := Lib.hid S1
  have HZ := Lib.hid Z1
  have HB := Lib.hid B1
  have hlw : w.heap.size < w1.heap.size := Z1.lt
  have HF := Lib.hid hf
  have hll := hf.1
  clear HC Z0 B0 b1 S1 Z1 B1 hf hs
  go_wp2
  go_loopw [8] (fun t wr => ∃ i : Nat, i ≤ l.length ∧ t = .int .i64 (i : Int) ∧ wr = w1 ∧ ∀ j, (hj : j < l.length) → j < i → l[j].r.st ≠ 3) (fun t _ => 201 - (intOf t).toNat)
  case atStart => exact ⟨0, Nat.zero_le _, rfl, rfl, fun j _ h => absurd h (Nat.not_lt_zero _)⟩
  case round =>
    obtain ⟨i, hi1, rfl, rfl, hno⟩ := hrel
    have HNO := Lib.hid hno
    clear hno
    by_cases hil : i < l.length
    · have hili : (i : Int) < (l.length : Int) := by omega
      have hil0 : (0 : Int) ≤ (i : Int) := by omega
      obtain ⟨b, off, hA, hbB, hq, hx⟩ := HS.out.at_ hil
      obtain ⟨q0, q1, q2, q3, q4, q5, q6, q7, q8, q9, q10, q11, q12, q13⟩ := id hq
      subst hA
      rcases hst : (l[i].r.st == 3) with _ | _
      · have hst2 : ¬ l[i].r.st = 3 := by simpa using hst
        have HN2 : Hid (∀ j, (hj : j < l.length) → j < i + 1 → l[j].r.st ≠ 3) := Lib.hid (fun j hj hji => by
          rcases Nat.lt_or_ge j i with h | h
          · exact HNO.out j hj h
          · obtain rfl : j = i := by omega
            exact hst2)
        generalize l[i] = x at *
        go_wp2
        go_roundw
        case rel => exact ⟨i + 1, by omega, by go_num, by first | rfl | trivial, HN2.out⟩
        case measure => simp [intOf]; omega
      · have hst2 : l[i].r.st = 3 := by simpa using hst
        have E9 : Hid (d = cw 1 l[i].r) := Lib.hid (HD.out.trans (dc_done (dn_at hil hst2 (fun j hj => HNO.out j (by omega) hj))))
        have SX := Lib.hid (HSL.out _ (List.getElem_mem hil))
        clear hst
        generalize l[i] = x at *
        obtain ⟨z0, z1, z2, z3, z4, z5, z6, z7, z8⟩ := id HZ.out.cc
        have g0 := HZ.out.free 0
        have g1 := HZ.out.free 1
        have g2 := HZ.out.free 2
        have g3 := HZ.out.free 3
        have g4 := HZ.out.free 4
        have g5 := HZ.out.free 5
        have g6 := HZ.out.free 6
        have g7 := HZ.out.free 7
        have g8 := HZ.out.free 8
        go_wp2
        go_region
        go_wp2
        exact bodyPost_ret (v := chv (cw 1 x.r) x.A x.c) (run_rdec (B := w.heap.size) rfl (cx_drew (HZ.out.put (cw 1 x.r) x.A x.c))) rfl (by
          rw [E9.out]
          have bl := (HB.out.trans (below_cput (Below.refl w.heap.size wr) (B := w.heap.size) (Nat.le_refl _) (cw 1 x.r) x.A x.c)).drew
          exact ⟨x.A, x.c, rfl, SX.out.to bl bl.size, bl⟩)
    · obtain rfl : i = l.length := by omega
      have hd0 := dn_none (fun j hj => HNO.out j hj hj)
      have hqe : qu m = m / 2 + 1 := rfl
      by_cases hq : l.length < m / 2 + 1
      · have E9 : Hid (d = c0) := Lib.hid (HD.out.trans (dc_wait hd0 hq))
        have hqi : (l.length : Int) < ((qu m : Nat) : Int) := by rw [hqe]; omega
        clear hqe HD hd0 hq
        generalize ((qu m : Nat) : Int) = q at *
        go_wp2_with fail
        refine (HQ _).out.mono ?_
        rintro e w2 ⟨rfl, b2⟩
        have Z2 := HZ.out.on b2 hlw
        have B2 := HB.out.trans (b2.mono HB.out.size)
        clear HQ b2
        obtain ⟨z0, z1, z2, z3, z4, z5, z6, z7, z8⟩ := id Z2.cc
        have g0 := Z2.free 0
        have g1 := Z2.free 1
        have g2 := Z2.free 2
        have g3 := Z2.free 3
        have g4 := Z2.free 4
        have g5 := Z2.free 5
        have g6 := Z2.free 6
        have g7 := Z2.free 7
        have g8 := Z2.free 8
        go_wp2
        exact bodyPost_ret (v := chv c0 none 0) (run_rdec (B := w.heap.size) rfl (Z2.put c0 none 0)) rfl (by
          rw [E9.out]
          exact ⟨none, 0, rfl, .inl rfl, below_cput B2 (B := w.heap.size) (Nat.le_refl _) c0 none 0⟩)
      · have hqi : ¬ (l.length : Int) < ((qu m : Nat) : Int) := by rw [hqe]; omega
        have h0l : 0 < l.length := by omega
        clear hqe
        have HD3 : Hid (∀ a, tk l = some a → d = cw 2 a.r) := Lib.hid (fun a h => HD.out.trans (dc_take hd0 hq h))
        have HD4 : Hid (tk l = none → ∀ a, ag o l = some a → d = cw 2 a.r) := Lib.hid (fun h a h2 => HD.out.trans (dc_first hd0 hq h h2))
        have HD5 : Hid (tk l = none → ag o l = none → ∀ a, gt 1 l = some a → d = c3 a.r) := Lib.hid (fun h h2 a h3 => HD.out.trans (dc_again hd0 hq h h2 h3))
        have HD6 : Hid (tk l = none → ag o l = none → gt 1 l = none → d = c4) := Lib.hid (fun h h2 h3 => HD.out.trans (dc_fill hd0 hq h h2 h3))
        clear HD hd0 hq
        generalize ((qu m : Nat) : Int) = q at *
        go_wp2_with fail
        refine (HQ _).out.mono ?_
        rintro e w2 ⟨rfl, b2⟩
        have Z2 := HZ.out.on b2 hlw
        have B2 := HB.out.trans (b2.mono HB.out.size)
        have S2 := HS.out.to b2 b2.size
        clear HQ b2 HS HZ HB
        have H3 := Lib.hid (best_any 2 A1 c1 l hll w2 S2)
        go_wp2_with fail
        refine H3.out.mono ?_
        rintro e w3 ⟨z2, rfl, hz2, b3⟩
        have Z3 := Z2.on b3 Z2.lt
        have B3 := B2.trans (b3.mono B2.size)
        have S3 := S2.to b3 b3.size
        clear Z2 B2 S2 b3 H3
        have H4 := Lib.hid (best_any 1 A1 c1 l hll w3 S3)
        go_wp2_with fail
        refine H4.out.mono ?_
        rintro e w4 ⟨z1, rfl, hz1, b4⟩
        have Z4 := Z3.on b4 Z3.lt
        have B4 := B3.trans (b4.mono B3.size)
        have S4 := S3.to b4 b4.size
        clear Z3 B3 S3 b4 H4
        rcases hz2 with ⟨rfl, hz2⟩ | ⟨j2, rfl, hj2, hz2⟩
        · have HT : Hid (tk l = none) := Lib.hid (by unfold tk; rw [hz2])
          clear HD3 hz2
          go_wp2
          go_quiet (fail)
          rename_i nq
          have Z5 := (show Cx (w4.drewN nq) w.heap.size c0 none 0 from Z4)
          have B5 := below_drewN B4 nq
          have S5 : Ls (w4.drewN nq) (w4.drewN nq).heap.size A1 l := S4
          clear Z4 B4 S4
          generalize w4.drewN nq = w5 at *
          have H5 := Lib.hid (rfirst_any o A1 c1 l HF.out w5 S5)
          rcases hfr : fr o l with _ | _
          · rw [hfr] at H5
            have HA := Lib.hid (ag_no hfr)
            clear hfr
            go_wp2_with fail
            refine H5.out.mono ?_
            rintro e w6 ⟨rfl, b6⟩
            have Z6 := Z5.on b6 Z5.lt
            have B6 := B5.trans (b6.mono B5.size)
            have S6 := S5.to b6 b6.size
            clear H5 Z5 B5 S5 b6
            rcases hz1 with ⟨rfl, hg⟩ | ⟨j1, rfl, hj1, hg⟩
            · have E9 : Hid (d = c4) := Lib.hid (HD6.out HT.out HA.out hg)
              clear HD4 HD5 HD6 HT hg
              obtain ⟨z0, z1, z2, z3, z4, z5, z6, z7, z8⟩ := id Z6.cc
              have g0 := Z6.free 0
              have g1 := Z6.free 1
              have g2 := Z6.free 2
              have g3 := Z6.free 3
              have g4 := Z6.free 4
              have g5 := Z6.free 5
              have g6 := Z6.free 6
              have g7 := Z6.free 7
              have g8 := Z6.free 8
              go_wp2
              exact bodyPost_ret (v := chv c4 none 0) (run_rdec (B := w.heap.size) rfl (Z6.put c4 none 0)) rfl (by
                rw [E9.out]
                exact ⟨none, 0, rfl, .inl rfl, below_cput B6 (B := w.heap.size) (Nat.le_refl _) c4 none 0⟩)
            · have E9 : Hid (d = c3 l[j1].r) := Lib.hid (HD5.out HT.out HA.out _ hg)
              have hj1i : (j1 : Int) < (l.length : Int) := by omega
              have hj1n : ¬ (j1 : Int) < 0 := by omega
              have hj10 : (0 : Int) ≤ (j1 : Int) := by omega
              clear hg
              obtain ⟨b, off, hA, hbB, hq, _⟩ := S6.at_ hj1
              obtain ⟨q0, q1, q2, q3, q4, q5, q6, q7, q8, q9, q10, q11, q12, q13⟩ := id hq
              cases hA
              clear HD4 HD5 HD6 HT
              generalize l[j1] = y at *
              obtain ⟨z0, z1, z2, z3, z4, z5, z6, z7, z8⟩ := id Z6.cc
              have g0 := Z6.free 0
              have g1 := Z6.free 1
              have g2 := Z6.free 2
              have g3 := Z6.free 3
              have g4 := Z6.free 4
              have g5 := Z6.free 5
              have g6 := Z6.free 6
              have g7 := Z6.free 7
              have g8 := Z6.free 8
              go_wp2
              exact bodyPost_ret (v := chv (c3 y.r) none 0) (run_rdec (B := w.heap.size) rfl (Z6.put (c3 y.r) none 0)) rfl (by
                rw [E9.out]
                exact ⟨none, 0, rfl, .inl rfl, below_cput B6 (B := w.heap.size) (Nat.le_refl _) (c3 y.r) none 0⟩)
          · rw [hfr] at H5
            have E9 : Hid (d = cw 2 l[0].r) := Lib.hid (HD4.out HT.out _ (ag_head h0l hfr))
            have SX := Lib.hid (HSL.out _ (List.getElem_mem h0l))
            have h0i : (0 : Int) < (l.length : Int) := by omega
            clear hfr HD4 HD5 HD6 HT
            go_wp2_with fail
            refine H5.out.mono ?_
            rintro e w6 ⟨rfl, b6⟩
            have Z6 := Z5.on b6 Z5.lt
            have B6 := B5.trans (b6.mono B5.size)
            have S6 := S5.to b6 b6.size
            clear H5 Z5 B5 S5 b6
            obtain ⟨b, off, hA, hbB, hq, _⟩ := S6.at_ h0l
            rw [show off + 0 * 14 = off by omega] at hq
            obtain ⟨q0, q1, q2, q3, q4, q5, q6, q7, q8, q9, q10, q11, q12, q13⟩ := id hq
            cases hA
            generalize l[0] = x at *
            obtain ⟨z0, z1, z2, z3, z4, z5, z6, z7, z8⟩ := id Z6.cc
            have g0 := Z6.free 0
            have g1 := Z6.free 1
            have g2 := Z6.free 2
            have g3 := Z6.free 3
            have g4 := Z6.free 4
            have g5 := Z6.free 5
            have g6 := Z6.free 6
            have g7 := Z6.free 7
            have g8 := Z6.free 8
            go_wp2
            go_region
            go_wp2
            exact bodyPost_ret (v := chv (cw 2 x.r) x.A x.c) (run_rdec (B := w.heap.size) rfl (cx_drew (Z6.put (cw 2 x.r) x.A x.c))) rfl (by
              rw [E9.out]
              have bl := (B6.trans (below_cput (Below.refl w.heap.size w6) (B := w.heap.size) (Nat.le_refl _) (cw 2 x.r) x.A x.c)).drew
              exact ⟨x.A, x.c, rfl, SX.out.to bl bl.size, bl⟩)
        · have hj2i : (j2 : Int) < (l.length : Int) := by omega
          have hj2n : ¬ (j2 : Int) < 0 := by omega
          have hj20 : (0 : Int) ≤ (j2 : Int) := by omega
          rcases hz1 with ⟨rfl, hz1⟩ | ⟨j1, rfl, hj1, hz1⟩
          · have E9 : Hid (d = cw 2 l[j2].r) := Lib.hid (HD3.out _ (by unfold tk; rw [hz2, hz1]))
            obtain ⟨b, off, hA, hbB, hq, _⟩ := S4.at_ hj2
            have SX := Lib.hid (HSL.out _ (List.getElem_mem hj2))
            obtain ⟨q0, q1, q2, q3, q4, q5, q6, q7, q8, q9, q10, q11, q12, q13⟩ := id hq
            subst hA
            clear HD3 HD4 HD5 HD6 hz1 hz2
            generalize l[j2] = x at *
            go_wp2
            go_quiet (fail)
            rename_i nq
            have Z5 := (show Cx (w4.drewN nq) w.heap.size c0 none 0 from Z4)
            have B5 := below_drewN B4 nq
            have R5 : Rq (w4.drewN nq) b (off + j2 * 14) x := hq
            clear Z4 B4 S4 hq q0 q1 q2 q3 q4 q5 q6 q7 q8 q9 q10 q11 q12 q13
            generalize w4.drewN nq = w5 at *
            obtain ⟨q0, q1, q2, q3, q4, q5, q6, q7, q8, q9, q10, q11, q12, q13⟩ := id R5
            obtain ⟨z0, z1, z2, z3, z4, z5, z6, z7, z8⟩ := id Z5.cc
            have g0 := Z5.free 0
            have g1 := Z5.free 1
            have g2 := Z5.free 2
            have g3 := Z5.free 3
            have g4 := Z5.free 4
            have g5 := Z5.free 5
            have g6 := Z5.free 6
            have g7 := Z5.free 7
            have g8 := Z5.free 8
            go_wp2
            go_region
            go_wp2
            exact bodyPost_ret (v := chv (cw 2 x.r) x.A x.c) (run_rdec (B := w.heap.size) rfl (cx_drew (Z5.put (cw 2 x.r) x.A x.c))) rfl (by
              rw [E9.out]
              have bl := (B5.trans (below_cput (Below.refl w.heap.size w5) (B := w.heap.size) (Nat.le_refl _) (cw 2 x.r) x.A x.c)).drew
              exact ⟨x.A, x.c, rfl, SX.out.to bl bl.size, bl⟩)
          · have SX := Lib.hid (HSL.out _ (List.getElem_mem hj2))
            have hj1i : (j1 : Int) < (l.length : Int) := by omega
            have hj1n : ¬ (j1 : Int) < 0 := by omega
            have hj10 : (0 : Int) ≤ (j1 : Int) := by omega
            have hcv : cv2 l[j1] l[j2] = Ba.cm l[j1].r.vn l[j1].r.vb l[j2].r.vn l[j2].r.vb := rfl
            have TY : Hid (¬ 0 < Ba.cm l[j1].r.vn l[j1].r.vb l[j2].r.vn l[j2].r.vb → d = cw 2 l[j2].r) := Lib.hid (fun h => HD3.out _ (by unfold tk; rw [hz2, hz1]; exact if_neg (by rw [hcv]; exact h)))
            have TN : Hid (0 < Ba.cm l[j1].r.vn l[j1].r.vb l[j2].r.vn l[j2].r.vb → tk l = none) := Lib.hid (fun h => by unfold tk; rw [hz2, hz1]; exact if_pos (by rw [hcv]; exact h))
            have HC : ∀ V, Hid (Calls Try.prog 27 #[bv l[j1].r.vn l[j1].r.vb, bv l[j2].r.vn l[j2].r.vb] V (Ba.IntPost V (Ba.cm l[j1].r.vn l[j1].r.vb l[j2].r.vn l[j2].r.vb))) := fun V => Ba.rcmp_any _ _ _ _ V
            obtain ⟨b, off, hA, hbB, ⟨hq1, _⟩, hq2, _⟩ := S4.two hj1 hj2
            have HG : Hid (gt 1 l = some l[j1]) := Lib.hid hz1
            clear HD3 hz1 hz2 hcv
            have H2 : Hid (l[j2] = l[j2]) := Lib.hid rfl
            generalize Ba.cm l[j1].r.vn l[j1].r.vb l[j2].r.vn l[j2].r.vb = cz at *
            subst hA
            generalize hx1 : l[j1] = y at *
            generalize hx2 : l[j2] = x at *
            go_wp2
            have SB : Hid (∀ v, Below w4.heap.size w4 v → v.cell? ⟨b, off + j1 * 14 + 4, none⟩ = some (.int .i64 y.r.vn) ∧ v.cell? ⟨b, off + j1 * 14 + 5, none⟩ = some (.int .i64 y.r.vb) ∧ v.cell? ⟨b, off + j2 * 14 + 4, none⟩ = some (.int .i64 x.r.vn) ∧ v.cell? ⟨b, off + j2 * 14 + 5, none⟩ = some (.int .i64 x.r.vb)) := Lib.hid (fun v g => by
              obtain ⟨q0, q1, q2, q3, q4, q5, _⟩ := hq1.on g (by omega)
              obtain ⟨r0, r1, r2, r3, r4, r5, _⟩ := hq2.on g (by omega)
              exact ⟨q4, q5, r4, r5⟩)
            have BD : Hid (Below w4.heap.size w4 w4.drew) := (Below.refl _ _).drew
            have KZ := Lib.hid Z4
            have KB := Lib.hid B4
            have KS := Lib.hid S4
            have KQ := Lib.hid hq2
            clear hq1 hq2 Z4 B4 S4
            refine wp_region_held_drew (S := fun v => Below w4.heap.size w4 v) (by kernel_rfl) BD.out (fun hH => ?_)
            refine wpAnyH_take (i := 0) (v := ?v1) rfl (by kernel_rfl) (by kernel_rfl) (by kernel_rfl) (fun _ _ _ h => h) (Or.inl ⟨by rfl, ?hy1⟩) hH ?rest1
            case hy1 => (intro w hSw; (try dsimp only at hSw); go_simp; try with_reducible rfl)
            try simp only [Act.put, List.setIfInBounds_toArray, List.set_cons_zero, List.set_cons_succ, List.getElem_toArray, List.getElem_cons_zero]
            refine wpAnyH_take (i := 1) (v := ?v2) rfl (by kernel_rfl) (by kernel_rfl) (by kernel_rfl) (fun _ _ _ h => h) (Or.inl ⟨by rfl, ?hy2⟩) hH ?rest2
            case hy2 => (intro w hSw; (try dsimp only at hSw); go_simp; try with_reducible rfl)
            try simp only [Act.put, List.setIfInBounds_toArray, List.set_cons_zero, List.set_cons_succ, List.getElem_toArray, List.getElem_cons_zero, List.getElem_cons_succ]
            refine wpAnyH_take (i := 2) (v := ?v3) rfl (by kernel_rfl) (by kernel_rfl) (by kernel_rfl) (fun _ _ _ h => h) (Or.inl ⟨by rfl, ?hy3⟩) hH ?rest3
            case hy3 => (intro w hSw; (try dsimp only at hSw); go_simp; try with_reducible rfl)
            try simp only [Act.put, List.setIfInBounds_toArray, List.set_cons_zero, List.set_cons_succ, List.getElem_toArray, List.getElem_cons_zero, List.getElem_cons_succ]
            refine wpAnyH_take (i := 3) (v := ?v4) rfl (by kernel_rfl) (by kernel_rfl) (by kernel_rfl) (fun _ _ _ h => h) (Or.inl ⟨by rfl, ?hy4⟩) hH ?rest4
            case hy4 => (intro w hSw; (try dsimp only at hSw); go_simp; try with_reducible rfl)
            try simp only [Act.put, List.setIfInBounds_toArray, List.set_cons_zero, List.set_cons_succ, List.getElem_toArray, List.getElem_cons_zero, List.getElem_cons_succ]
            refine wpAnyH_take (i := 4) (v := ?v5) rfl (by kernel_rfl) (by kernel_rfl) (by kernel_rfl) (fun _ _ _ h => h) (Or.inl ⟨by rfl, ?hy5⟩) hH ?rest5
            case hy5 => (intro w hSw; (try dsimp only at hSw); go_simp; try with_reducible rfl)
            try simp only [Act.put, List.setIfInBounds_toArray, List.set_cons_zero, List.set_cons_succ, List.getElem_toArray, List.getElem_cons_zero, List.getElem_cons_succ]
            refine wpAnyH_take (i := 5) (v := ?v6) rfl (by kernel_rfl) (by kernel_rfl) (by kernel_rfl) (fun _ _ _ h => h) (Or.inl ⟨by rfl, ?hy6⟩) hH ?rest6
            case hy6 => (intro w hSw; (try dsimp only at hSw); go_simp; try with_reducible rfl)
            try simp only [Act.put, List.setIfInBounds_toArray, List.set_cons_zero, List.set_cons_succ, List.getElem_toArray, List.getElem_cons_zero, List.getElem_cons_succ]
            refine wpAnyH_take (i := 6) (v := ?v7) rfl (by kernel_rfl) (by kernel_rfl) (by kernel_rfl) (fun _ _ _ h => h) (Or.inl ⟨by rfl, ?hy7⟩) hH ?rest7
            case hy7 => (intro w hSw; (try dsimp only at hSw); go_simp; try with_reducible rfl)
            try simp only [Act.put, List.setIfInBounds_toArray, List.set_cons_zero, List.set_cons_succ, List.getElem_toArray, List.getElem_cons_zero, List.getElem_cons_succ]
            refine wpAnyH_take (i := 7) (v := ?v8) rfl (by kernel_rfl) (by kernel_rfl) (by kernel_rfl) (fun _ _ _ h => h) (Or.inl ⟨by rfl, ?hy8⟩) hH ?rest8
            case hy8 => (intro w hSw; (try dsimp only at hSw); go_simp; try with_reducible rfl)
            try simp only [Act.put, List.setIfInBounds_toArray, List.set_cons_zero, List.set_cons_succ, List.getElem_toArray, List.getElem_cons_zero, List.getElem_cons_succ]
            refine wpAnyH_take (i := 12) (v := ?v9) rfl (by kernel_rfl) (by kernel_rfl) (by kernel_rfl) (fun _ _ _ h => h) (Or.inl ⟨by rfl, ?hy9⟩) hH ?rest9
            case hy9 => (intro w hSw; (try dsimp only at hSw); go_simp; try with_reducible rfl)
            try simp only [Act.put, List.setIfInBounds_toArray, List.set_cons_zero, List.set_cons_succ, List.getElem_toArray, List.getElem_cons_zero, List.getElem_cons_succ]
            refine wpAnyH_take (i := 13) (v := ?v10) rfl (by kernel_rfl) (by kernel_rfl) (by kernel_rfl) (fun _ _ _ h => h) (Or.inl ⟨by rfl, ?hy10⟩) hH ?rest10
            case hy10 => (intro w hSw; (try dsimp only at hSw); go_simp; try with_reducible rfl)
            try simp only [Act.put, List.setIfInBounds_toArray, List.set_cons_zero, List.set_cons_succ, List.getElem_toArray, List.getElem_cons_zero, List.getElem_cons_succ]
            refine wpAnyH_take (i := 8) (v := ?v11) rfl (by kernel_rfl) (by kernel_rfl) (by kernel_rfl) (fun _ _ _ h => h) (Or.inl ⟨by rfl, ?hy11⟩) hH ?rest11
            case hy11 => (intro w hSw; (try dsimp only at hSw); go_simp; try with_reducible rfl)
            try simp only [Act.put, List.setIfInBounds_toArray, List.set_cons_zero, List.set_cons_succ, List.getElem_toArray, List.getElem_cons_zero, List.getElem_cons_succ]
            refine wpAnyH_take (i := 14) (v := ?v12) rfl (by kernel_rfl) (by kernel_rfl) (by kernel_rfl) (fun _ _ _ h => h) (Or.inl ⟨by rfl, ?hy12⟩) hH ?rest12
            case hy12 => (intro w hSw; (try dsimp only at hSw); go_simp; try with_reducible rfl)
            try simp only [Act.put, List.setIfInBounds_toArray, List.set_cons_zero, List.set_cons_succ, List.getElem_toArray, List.getElem_cons_zero, List.getElem_cons_succ]
            refine wpAnyH_take (i := 9) (v := ?v13) rfl (by kernel_rfl) (by kernel_rfl) (by kernel_rfl) (fun _ _ _ h => h) (Or.inl ⟨by rfl, ?hy13⟩) hH ?rest13
            case hy13 => (intro w hSw; (try dsimp only at hSw); go_simp; try with_reducible rfl)
            try simp only [Act.put, List.setIfInBounds_toArray, List.set_cons_zero, List.set_cons_succ, List.getElem_toArray, List.getElem_cons_zero, List.getElem_cons_succ]
            refine wpAnyH_take (i := 15) (v := ?v14) rfl (by kernel_rfl) (by kernel_rfl) (by kernel_rfl) (fun _ _ _ h => h) (Or.inl ⟨by rfl, ?hy14⟩) hH ?rest14
            case hy14 => (intro w hSw; (try dsimp only at hSw); go_simp; try with_reducible rfl)
            try simp only [Act.put, List.setIfInBounds_toArray, List.set_cons_zero, List.set_cons_succ, List.getElem_toArray, List.getElem_cons_zero, List.getElem_cons_succ]
            refine wpAnyH_take (i := 10) (v := ?v15) rfl (by kernel_rfl) (by kernel_rfl) (by kernel_rfl) (fun _ _ _ h => h) (Or.inl ⟨by rfl, ?hy15⟩) hH ?rest15
            case hy15 => (intro w hSw; (try dsimp only at hSw); go_simp; try with_reducible rfl)
            try simp only [Act.put, List.setIfInBounds_toArray, List.set_cons_zero, List.set_cons_succ, List.getElem_toArray, List.getElem_cons_zero, List.getElem_cons_succ]
            refine wpAnyH_take (i := 16) (v := ?v16) rfl (by kernel_rfl) (by kernel_rfl) (by kernel_rfl) (fun _ _ _ h => h) (Or.inl ⟨by rfl, ?hy16⟩) hH ?rest16
            case hy16 => (intro w hSw; (try dsimp only at hSw); go_simp; try with_reducible rfl)
            try simp only [Act.put, List.setIfInBounds_toArray, List.set_cons_zero, List.set_cons_succ, List.getElem_toArray, List.getElem_cons_zero, List.getElem_cons_succ]
            refine wpAnyH_take (i := 11) (v := ?v17) rfl (by kernel_rfl) (by kernel_rfl) (by kernel_rfl) (fun _ _ _ h => h) (Or.inl ⟨by rfl, ?hy17⟩) hH ?rest17
            case hy17 => (intro w hSw; (try dsimp only at hSw); obtain ⟨p4, p5, r4, r5⟩ := SB.out w hSw; go_simp; try with_reducible rfl)
            try simp only [Act.put, List.setIfInBounds_toArray, List.set_cons_zero, List.set_cons_succ, List.getElem_toArray, List.getElem_cons_zero, List.getElem_cons_succ]
            refine wpAnyH_take (i := 17) (v := ?v18) rfl (by kernel_rfl) (by kernel_rfl) (by kernel_rfl) (fun _ _ _ h => h) (Or.inl ⟨by rfl, ?hy18⟩) hH ?rest18
            case hy18 => (intro w hSw; (try dsimp only at hSw); obtain ⟨p4, p5, r4, r5⟩ := SB.out w hSw; go_simp; try with_reducible rfl)
            try simp only [Act.put, List.setIfInBounds_toArray, List.set_cons_zero, List.set_cons_succ, List.getElem_toArray, List.getElem_cons_zero, List.getElem_cons_succ]
            refine wpAnyH_ready (rs := [18]) (by kernel_rfl) (by simp) ?_
            refine AllReadyH.cons rfl (fun K hK => ?_) AllReadyH.nil
            go_simp
            go_at_call 27
            with_reducible refine (HC _).out.mono ?_
            rintro e wq19 ⟨rfl, bq19⟩
            go_wp2_with fail
            refine hK.out _ _ (hH.trans (bq19.mono hH.size)) (fun hH2 => ?_)
            clear hK K hH
            have hH := hH2
            clear hH2
            try simp only [Act.put, List.setIfInBounds_toArray, List.set_cons_zero, List.set_cons_succ, List.getElem_toArray, List.getElem_cons_zero, List.getElem_cons_succ]
            refine wpAnyH_take (i := 19) (v := ?v20) rfl (by kernel_rfl) (by kernel_rfl) (by kernel_rfl) (fun _ _ _ h => h) (Or.inl ⟨by rfl, ?hy20⟩) hH ?rest20
            case hy20 => (intro w hSw; (try dsimp only at hSw); go_simp; try with_reducible rfl)
            try simp only [Act.put, List.setIfInBounds_toArray, List.set_cons_zero, List.set_cons_succ, List.getElem_toArray, List.getElem_cons_zero, List.getElem_cons_succ]
            refine wpAnyH_take (i := 20) (v := ?v21) rfl (by kernel_rfl) (by kernel_rfl) (by kernel_rfl) (fun _ _ _ h => h) (Or.inl ⟨by rfl, ?hy21⟩) hH ?rest21
            case hy21 => (intro w hSw; (try dsimp only at hSw); go_simp; try with_reducible rfl)
            try simp only [Act.put, List.setIfInBounds_toArray, List.set_cons_zero, List.set_cons_succ, List.getElem_toArray, List.getElem_cons_zero, List.getElem_cons_succ]
            refine wpAnyH_take (i := 21) (v := ?v22) rfl (by kernel_rfl) (by kernel_rfl) (by kernel_rfl) (fun _ _ _ h => h) (Or.inl ⟨by rfl, ?hy22⟩) hH ?rest22
            case hy22 => (intro w hSw; (try dsimp only at hSw); go_simp; try with_reducible rfl)
            try simp only [Act.put, List.setIfInBounds_toArray, List.set_cons_zero, List.set_cons_succ, List.getElem_toArray, List.getElem_cons_zero, List.getElem_cons_succ]
            refine wpAnyH_done (by kernel_rfl) ?_ _
            have Z5 := KZ.out.on hH KZ.out.lt
            have B5 := KB.out.trans (hH.mono KB.out.size)
            have S5 := KS.out.to hH hH.size
            have R5 := KQ.out.on hH hbB
            clear KZ KB KS KQ SB BD HC
            generalize wq19 = w5 at *
            clear hH
            by_cases hc : 0 < cz
            · have HT := Lib.hid (TN.out (by first | exact hc | omega))
              clear TY TN R5
              subst hx1
              clear hx2
              have H5 := Lib.hid (rfirst_any o (some ⟨b, off, none⟩) c1 l HF.out w5 S5)
              rcases hfr : fr o l with _ | _
              · rw [hfr] at H5
                have HA := Lib.hid (ag_no hfr)
                clear hfr
                go_wp2_with fail
                refine H5.out.mono ?_
                rintro e w6 ⟨rfl, b6⟩
                have Z6 := Z5.on b6 Z5.lt
                have B6 := B5.trans (b6.mono B5.size)
                have S6 := S5.to b6 b6.size
                clear H5 Z5 B5 S5 b6
                have E9 : Hid (d = c3 l[j1].r) := Lib.hid (HD5.out HT.out HA.out _ HG.out)
                obtain ⟨b, off, hA, hbB, hq, _⟩ := S6.at_ hj1
                obtain ⟨q0, q1, q2, q3, q4, q5, q6, q7, q8, q9, q10, q11, q12, q13⟩ := id hq
                cases hA
                clear HD4 HD5 HD6 HT
                generalize l[j1] = y at *
                obtain ⟨z0, z1, z2, z3, z4, z5, z6, z7, z8⟩ := id Z6.cc
                have g0 := Z6.free 0
                have g1 := Z6.free 1
                have g2 := Z6.free 2
                have g3 := Z6.free 3
                have g4 := Z6.free 4
                have g5 := Z6.free 5
                have g6 := Z6.free 6
                have g7 := Z6.free 7
                have g8 := Z6.free 8
                go_wp2
                exact bodyPost_ret (v := chv (c3 y.r) none 0) (run_rdec (B := w.heap.size) rfl (Z6.put (c3 y.r) none 0)) rfl (by
                  rw [E9.out]
                  exact ⟨none, 0, rfl, .inl rfl, below_cput B6 (B := w.heap.size) (Nat.le_refl _) (c3 y.r) none 0⟩)
              · rw [hfr] at H5
                have E9 : Hid (d = cw 2 l[0].r) := Lib.hid (HD4.out HT.out _ (ag_head h0l hfr))
                have SX := Lib.hid (HSL.out _ (List.getElem_mem h0l))
                have h0i : (0 : Int) < (l.length : Int) := by omega
                clear hfr HD4 HD5 HD6 HT
                go_wp2_with fail
                refine H5.out.mono ?_
                rintro e w6 ⟨rfl, b6⟩
                have Z6 := Z5.on b6 Z5.lt
                have B6 := B5.trans (b6.mono B5.size)
                have S6 := S5.to b6 b6.size
                clear H5 Z5 B5 S5 b6
                obtain ⟨b, off, hA, hbB, hq, _⟩ := S6.at_ h0l
                rw [show off + 0 * 14 = off by omega] at hq
                obtain ⟨q0, q1, q2, q3, q4, q5, q6, q7, q8, q9, q10, q11, q12, q13⟩ := id hq
                cases hA
                generalize l[0] = x at *
                obtain ⟨z0, z1, z2, z3, z4, z5, z6, z7, z8⟩ := id Z6.cc
                have g0 := Z6.free 0
                have g1 := Z6.free 1
                have g2 := Z6.free 2
                have g3 := Z6.free 3
                have g4 := Z6.free 4
                have g5 := Z6.free 5
                have g6 := Z6.free 6
                have g7 := Z6.free 7
                have g8 := Z6.free 8
                go_wp2
                go_region
                go_wp2
                exact bodyPost_ret (v := chv (cw 2 x.r) x.A x.c) (run_rdec (B := w.heap.size) rfl (cx_drew (Z6.put (cw 2 x.r) x.A x.c))) rfl (by
                  rw [E9.out]
                  have bl := (B6.trans (below_cput (Below.refl w.heap.size w6) (B := w.heap.size) (Nat.le_refl _) (cw 2 x.r) x.A x.c)).drew
                  exact ⟨x.A, x.c, rfl, SX.out.to bl bl.size, bl⟩)
            · have E9 : Hid (d = cw 2 x.r) := Lib.hid (TY.out (by first | exact hc | omega))
              clear TY TN HD4 HD5 HD6
              obtain ⟨q0, q1, q2, q3, q4, q5, q6, q7, q8, q9, q10, q11, q12, q13⟩ := id R5
              obtain ⟨z0, z1, z2, z3, z4, z5, z6, z7, z8⟩ := id Z5.cc
              have g0 := Z5.free 0
              have g1 := Z5.free 1
              have g2 := Z5.free 2
              have g3 := Z5.free 3
              have g4 := Z5.free 4
              have g5 := Z5.free 5
              have g6 := Z5.free 6
              have g7 := Z5.free 7
              have g8 := Z5.free 8
              go_wp2
              go_region
              go_wp2
              exact bodyPost_ret (v := chv (cw 2 x.r) x.A x.c) (run_rdec (B := w.heap.size) rfl (cx_drew (Z5.put (cw 2 x.r) x.A x.c))) rfl (by
                rw [E9.out]
                have bl := (B5.trans (below_cput (Below.refl w.heap.size w5) (B := w.heap.size) (Nat.le_refl _) (cw 2 x.r) x.A x.c)).drew
                exact ⟨x.A, x.c, rfl, SX.out.to bl bl.size, bl⟩)

end Go.Proofs.Ytgmfjoegfbaebaa.Rg
