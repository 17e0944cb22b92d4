/-
  The walks of Fast and of Decide. Conditions: at most 200 reports of at most 1000 deps.
-/
import Derived.Test.YtgmfjoegfbaebaaRgTk
import Derived.Laws.EntriesVeiled
namespace Go.Proofs.Ytgmfjoegfbaebaa.Rg
open Go.RowKit In
set_option linter.unusedVariables false
attribute [local go_sem ↓ high] Ba.eq23 Ba.guard23 Ba.neq23 Ba.guard23n eqc guardc

set_option maxHeartbeats 1000000 in
theorem Fast_any (n o : Int) (A : Option Addr) (c : Nat) (L : List Rp) (hl : Few L) (w : World) (hs : Ls w w.heap.size A L) : Calls Try.prog 15 #[.int .i64 n, .int .i64 o, .slice A L.length c] w (BoolPost w (fs o (am n) (ct L (am n)))) := by
  have HA : Hid (Calls Try.prog 19 #[.int .i64 n] w (IntP w (am n))) := among_any n w
  have h1 := am_pos n
  have h7 := am_le n
  generalize am n = m at *
  have HG : ∀ V, Ls V V.heap.size A L → Hid (Calls Try.prog 30 #[hv m o A L.length c] V (RcP V (ag o (ct L m)))) := fun V g => agreed_any m h7 o A c L hl V g
  have HCn : ∀ V, Ls V V.heap.size A L → Hid (Calls Try.prog 31 #[hv m o A L.length c] V (IntP V ((cta L m).length : Int))) := fun V g => count_any m h7 o A c L hl.1 V g
  have hlen : (cta L m).length = (ct L m).length := by rw [← cta_val]; simp
  rw [hlen] at HCn
  unfold fs
  have hd : decide ((ct L m).length = m) = (((ct L m).length : Int) == (m : Int)) := by
    rw [Bool.eq_iff_iff]
    simp
    omega
  rw [hd]
  clear hlen hd
  generalize ((ct L m).length : Int) = k at *
  generalize ag o (ct L m) = g at *
  go_enter Try.func15, Try.ntmps15
  go_wp2_with fail
  refine HA.out.mono ?_
  rintro e w1 ⟨rfl, b1⟩
  have b2 : Below w1.heap.size w1 (w1.alloc (.cells #[.int .i64 (m : Int), .int .i64 o, .slice A L.length c] 48)) := (Below.refl _ _).alloc (Nat.le_refl _) _
  have X2 := hx_new w1 m o A L.length c
  have B2 := b1.trans (b2.mono b1.size)
  have S2 := hs.to B2 B2.size
  have l2 := X2.lt
  obtain ⟨x0, x1, x2⟩ := id X2.cells
  clear HA b2
  go_wp2_with fail
  generalize w1.alloc (.cells #[.int .i64 (m : Int), .int .i64 o, .slice A L.length c] 48) = w2 at *
  refine (HG w2 S2).out.mono ?_
  rintro e w3 ⟨rfl, b3⟩
  have X3 := X2.on b3 X2.lt
  have B3 := B2.trans (b3.mono B2.size)
  have S3 := hs.to B3 B3.size
  clear HG S2 B2 X2 x0 x1 x2
  rcases g with _ | y
  · simp only [Option.isSome_none, Option.getD_none]
    have b4 : Below w3.heap.size w3 (w3.alloc (.cells (rcs z0.r z0.A z0.c) 42)) := (Below.refl _ _).alloc (Nat.le_refl _) _
    have B4 := B3.trans (b4.mono B3.size)
    clear HCn S3 X3 b4
    go_wp2
    go_quiet (fail)
    go_wp2
    go_ret
    exact ⟨rfl, below_drewN B4 _⟩
  · simp only [Option.isSome_some, Option.getD_some]
    have b4 : Below w3.heap.size w3 (w3.alloc (.cells (rcs y.r y.A y.c) 42)) := (Below.refl _ _).alloc (Nat.le_refl _) _
    have B4 := B3.trans (b4.mono B3.size)
    have X4 := X3.on b4 X3.lt
    have S4 := hs.to B4 B4.size
    have l3 := X3.lt
    clear S3 X3 b4
    go_wp2_with fail
    generalize hW : w3.alloc (.cells (rcs y.r y.A y.c) 42) = W0 at *
    clear hW
    have SB : Hid (∀ v, Below W0.heap.size W0 v → v.cell? ⟨w1.heap.size, 0, none⟩ = some (.int .i64 (m : Int)) ∧ v.cell? ⟨w1.heap.size, 1, none⟩ = some (.int .i64 o) ∧ v.cell? ⟨w1.heap.size, 2, none⟩ = some (.slice A L.length c)) := Lib.hid (fun v g => (X4.on g X4.lt).cells)
    have BD : Hid (Below W0.heap.size W0 W0.drew) := (Below.refl _ _).drew
    have HB := Lib.hid B4
    have C1 : ∀ V, Below W0.heap.size W0 V → Hid (Calls Try.prog 31 #[hv m o A L.length c] V (IntP V k)) := fun V g => HCn V (S4.to g g.size)
    clear B4 X4 S4 HCn hs
    refine wp_region_held_drew (S := fun v => Below W0.heap.size W0 v) (by kernel_rfl) BD.out (fun hH => ?_)
    refine wpAnyH_take (i := 0) (v := ?v1) rfl (by kernel_rfl) (by kernel_rfl) (by kernel_rfl) (fun _ _ _ h => h) (Or.inl ⟨by rfl, ?hy1⟩) hH ?rest1
    case hy1 => (intro w hSw; (try dsimp only at hSw); go_simp; try with_reducible rfl)
    try simp only [Act.put, List.setIfInBounds_toArray, List.set_cons_zero, List.set_cons_succ, List.getElem_toArray, List.getElem_cons_zero]
    refine wpAnyH_take (i := 1) (v := ?v2) rfl (by kernel_rfl) (by kernel_rfl) (by kernel_rfl) (fun _ _ _ h => h) (Or.inl ⟨by rfl, ?hy2⟩) hH ?rest2
    case hy2 => (intro w hSw; (try dsimp only at hSw); go_simp; try with_reducible rfl)
    try simp only [Act.put, List.setIfInBounds_toArray, List.set_cons_zero, List.set_cons_succ, List.getElem_toArray, List.getElem_cons_zero, List.getElem_cons_succ]
    refine wpAnyH_take (i := 2) (v := ?v3) rfl (by kernel_rfl) (by kernel_rfl) (by kernel_rfl) (fun _ _ _ h => h) (Or.inl ⟨by rfl, ?hy3⟩) hH ?rest3
    case hy3 => (intro w hSw; (try dsimp only at hSw); obtain ⟨p0, p1, p2⟩ := SB.out w hSw; go_simp; try with_reducible rfl)
    try simp only [Act.put, List.setIfInBounds_toArray, List.set_cons_zero, List.set_cons_succ, List.getElem_toArray, List.getElem_cons_zero, List.getElem_cons_succ]
    refine wpAnyH_take (i := 4) (v := ?v4) rfl (by kernel_rfl) (by kernel_rfl) (by kernel_rfl) (fun _ _ _ h => h) (Or.inl ⟨by rfl, ?hy4⟩) hH ?rest4
    case hy4 => (intro w hSw; (try dsimp only at hSw); go_simp; try with_reducible rfl)
    try simp only [Act.put, List.setIfInBounds_toArray, List.set_cons_zero, List.set_cons_succ, List.getElem_toArray, List.getElem_cons_zero, List.getElem_cons_succ]
    refine wpAnyH_take (i := 5) (v := ?v5) rfl (by kernel_rfl) (by kernel_rfl) (by kernel_rfl) (fun _ _ _ h => h) (Or.inl ⟨by rfl, ?hy5⟩) hH ?rest5
    case hy5 => (intro w hSw; (try dsimp only at hSw); obtain ⟨p0, p1, p2⟩ := SB.out w hSw; go_simp; try with_reducible rfl)
    try simp only [Act.put, List.setIfInBounds_toArray, List.set_cons_zero, List.set_cons_succ, List.getElem_toArray, List.getElem_cons_zero, List.getElem_cons_succ]
    refine wpAnyH_ready (rs := [3]) (by kernel_rfl) (by simp) ?_
    refine AllReadyH.cons rfl (fun K hK => ?_) AllReadyH.nil
    go_simp
    go_at_call 31
    with_reducible refine (C1 _ hH).out.mono ?_
    rintro e wq6 ⟨rfl, bq6⟩
    go_wp2_with fail
    refine hK.out _ _ (hH.trans (bq6.mono hH.size)) (fun hH2 => ?_)
    clear hK K hH
    have hH := hH2
    clear hH2
    try simp only [Act.put, List.setIfInBounds_toArray, List.set_cons_zero, List.set_cons_succ, List.getElem_toArray, List.getElem_cons_zero, List.getElem_cons_succ]
    refine wpAnyH_take (i := 6) (v := ?v7) rfl (by kernel_rfl) (by kernel_rfl) (by kernel_rfl) (fun _ _ _ h => h) (Or.inl ⟨by rfl, ?hy7⟩) hH ?rest7
    case hy7 => (intro w hSw; (try dsimp only at hSw); go_simp; try with_reducible rfl)
    try simp only [Act.put, List.setIfInBounds_toArray, List.set_cons_zero, List.set_cons_succ, List.getElem_toArray, List.getElem_cons_zero, List.getElem_cons_succ]
    refine wpAnyH_take (i := 7) (v := ?v8) rfl (by kernel_rfl) (by kernel_rfl) (by kernel_rfl) (fun _ _ _ h => h) (Or.inl ⟨by rfl, ?hy8⟩) hH ?rest8
    case hy8 => (intro w hSw; (try dsimp only at hSw); go_simp; try with_reducible rfl)
    try simp only [Act.put, List.setIfInBounds_toArray, List.set_cons_zero, List.set_cons_succ, List.getElem_toArray, List.getElem_cons_zero, List.getElem_cons_succ]
    refine wpAnyH_take (i := 8) (v := ?v9) rfl (by kernel_rfl) (by kernel_rfl) (by kernel_rfl) (fun _ _ _ h => h) (Or.inl ⟨by rfl, ?hy9⟩) hH ?rest9
    case hy9 => (intro w hSw; (try dsimp only at hSw); go_simp; try with_reducible rfl)
    try simp only [Act.put, List.setIfInBounds_toArray, List.set_cons_zero, List.set_cons_succ, List.getElem_toArray, List.getElem_cons_zero, List.getElem_cons_succ]
    refine wpAnyH_done (by kernel_rfl) ?_ _
    go_wp2
    go_ret
    exact ⟨rfl, HB.out.trans (hH.mono HB.out.size)⟩

theorem run_decide {V : World} {tm : Array Value} {B : Nat} {x : Ch} {A : Option Addr} {c : Nat} (h2 : tm[6]?.getD undef = .pointer (some ⟨B, 0, none⟩)) (hb : Cx V B x A c) :
    (results Try.f11 tm).run Try.prog V = .ok (chv x A c) V := by
  obtain ⟨c0, c1, c2, c3, c4, c5, c6, c7, c8⟩ := hb.cc
  simp [results, Try.f11, go_sem, h2, c0, c1, c2, c3, c4, c5, c6, c7, c8]
/-- What each of the five finds, and whether it holds. -/
def c5 (o : Int) (n : Nat) (l : List Rp) : Nat → Ch
  | 0 => co (cw 1) (dn l)
  | 1 => c0
  | 2 => co (cw 2) (tk l)
  | 3 => co (cw 2) (ag o l)
  | _ => co c3 (gt 1 l)
def b5 (o : Int) (n : Nat) (l : List Rp) : Nat → Bool
  | 0 => (dn l).isSome
  | 1 => decide (l.length < n / 2 + 1)
  | 2 => (tk l).isSome
  | 3 => (ag o l).isSome
  | _ => (gt 1 l).isSome
theorem dc_at (o : Int) (n : Nat) (l : List Rp) (k : Nat) (hk : k < 5) (hb : b5 o n l k = true) (hn : ∀ j < k, b5 o n l j = false) : dc o n l = c5 o n l k := by
  unfold dc
  rcases h0 : dn l with _ | x
  · by_cases h1 : l.length < n / 2 + 1
    · rw [if_pos h1]
      rcases k with _ | _ | k
      · simp [b5, h0] at hb
      · rfl
      · have := hn 1 (by omega); simp [b5] at this; omega
    · rw [if_neg h1]
      rcases h2 : tk l with _ | x
      · rcases h3 : ag o l with _ | x
        · rcases h4 : gt 1 l with _ | x
          · rcases k with _ | _ | _ | _ | k
            · simp [b5, h0] at hb
            · simp [b5] at hb; omega
            · simp [b5, h2] at hb
            · simp [b5, h3] at hb
            · simp [b5, h4] at hb
          · rcases k with _ | _ | _ | _ | k
            · simp [b5, h0] at hb
            · simp [b5] at hb; omega
            · simp [b5, h2] at hb
            · simp [b5, h3] at hb
            · simp [c5, h4, co]
        · rcases k with _ | _ | _ | _ | k
          · simp [b5, h0] at hb
          · simp [b5] at hb; omega
          · simp [b5, h2] at hb
          · simp [c5, h3, co]
          · have := hn 3 (by omega); simp [b5, h3] at this
      · rcases k with _ | _ | _ | k
        · simp [b5, h0] at hb
        · simp [b5] at hb; omega
        · simp [c5, h2, co]
        · have := hn 2 (by omega); simp [b5, h2] at this
  · rcases k with _ | k
    · simp [c5, h0, co]
    · have := hn 0 (by omega); simp [b5, h0] at this
theorem dc_none (o : Int) (n : Nat) (l : List Rp) (hn : ∀ j < 5, b5 o n l j = false) : dc o n l = c4 := by
  have h0 := hn 0 (by omega)
  have h1 := hn 1 (by omega)
  have h2 := hn 2 (by omega)
  have h3 := hn 3 (by omega)
  have h4 := hn 4 (by omega)
  simp [b5] at h0 h1 h2 h3 h4
  unfold dc
  rw [h0, h2, h3, h4, if_neg (by omega)]
def f5 : Nat → Nat
  | 0 => 20
  | 1 => 21
  | 2 => 22
  | 3 => 23
  | _ => 24

set_option maxHeartbeats 2000000 in
theorem Decide_any (n o : Int) (A : Option Addr) (c : Nat) (L : List Rp) (hl : Few L) (w : World) (hs : Ls w w.heap.size A L) : Calls Try.prog 11 #[.int .i64 n, .int .i64 o, .slice A L.length c] w (ChP w (dc o (am n) (ct L (am n)))) := by
  have HA : ∀ V, Hid (Calls Try.prog 19 #[.int .i64 n] V (IntP V (am n))) := fun V => among_any n V
  have h1 := am_pos n
  have h7 := am_le n
  generalize am n = m at *
  have F0 : ∀ V, Ls V V.heap.size A L → Hid (Calls Try.prog 20 #[hv m o A L.length c] V (ChoPost V (c5 o m (ct L m) 0) (b5 o m (ct L m) 0))) := fun V g => done_any m h7 o A c L hl V g
  have F1 : ∀ V, Ls V V.heap.size A L → Hid (Calls Try.prog 21 #[hv m o A L.length c] V (ChoPost V (c5 o m (ct L m) 1) (b5 o m (ct L m) 1))) := fun V g => wait_any m h1 h7 o A c L hl V g
  have F2 : ∀ V, Ls V V.heap.size A L → Hid (Calls Try.prog 22 #[hv m o A L.length c] V (ChoPost V (c5 o m (ct L m) 2) (b5 o m (ct L m) 2))) := fun V g => takeAcc_any m h7 o A c L hl V g
  have F3 : ∀ V, Ls V V.heap.size A L → Hid (Calls Try.prog 23 #[hv m o A L.length c] V (ChoPost V (c5 o m (ct L m) 3) (b5 o m (ct L m) 3))) := fun V g => takeFirst_any m h7 o A c L hl V g
  have F4 : ∀ V, Ls V V.heap.size A L → Hid (Calls Try.prog 24 #[hv m o A L.length c] V (ChoPost V (c5 o m (ct L m) 4) (b5 o m (ct L m) 4))) := fun V g => again_any m h7 o A c L hl V g
  have HD : Hid (∀ k < 5, b5 o m (ct L m) k = true → (∀ j < k, b5 o m (ct L m) j = false) → dc o m (ct L m) = c5 o m (ct L m) k) := Lib.hid (fun k hk hb hn => dc_at o m (ct L m) k hk hb hn)
  have HN : Hid ((∀ j < 5, b5 o m (ct L m) j = false) → dc o m (ct L m) = c4) := Lib.hid (dc_none o m (ct L m))
  generalize dc o m (ct L m) = d at *
  generalize c5 o m (ct L m) = C at *
  generalize b5 o m (ct L m) = b at *
  have B0 : Below w.heap.size w (w.alloc (.cells #[.int .i64 0, .int .i64 0, .int .i64 0, .int .i64 0, .int .i64 0, .int .i64 0, .string ⟨#[]⟩, .int .i64 0, .slice none 0 0] 32)) := (Below.refl _ _).alloc (Nat.le_refl _) _
  have Z0 := cx_zero w
  go_enter Try.func11, Try.ntmps11
  go_wp2_with fail
  generalize w.alloc (.cells #[.int .i64 0, .int .i64 0, .int .i64 0, .int .i64 0, .int .i64 0, .int .i64 0, .string ⟨#[]⟩, .int .i64 0, .slice none 0 0] 32) = w0 at *
  refine (HA w0).out.mono ?_
  rintro e w1 ⟨rfl, b1⟩
  have B1 := B0.trans (b1.mono B0.size)
  have Z1 := Z0.on b1 Z0.lt
  have X2 := hx_new w1 m o A L.length c
  clear HA B0 Z0 b1
  go_wp2
  have b2 : Below w1.heap.size w1 ((w1.alloc (.cells #[.int .i64 (m : Int), .int .i64 o, .slice A L.length c] 48)).alloc (.cells #[.func (.func 20) #[] #[], .func (.func 21) #[] #[], .func (.func 22) #[] #[], .func (.func 23) #[] #[], .func (.func 24) #[] #[]] 50)) := ((Below.refl _ _).alloc (Nat.le_refl _) _).alloc (by simp) _
  have X3 := X2.old (.cells #[.func (.func 20) #[] #[], .func (.func 21) #[] #[], .func (.func 22) #[] #[], .func (.func 23) #[] #[], .func (.func 24) #[] #[]] 50)
  have Z3 := Z1.on b2 Z1.lt
  have B3 := B1.trans (b2.mono B1.size)
  have l1 := Z1.lt
  have l3 := X3.lt
  clear X2 Z1 b2
  generalize (w1.alloc (.cells #[.int .i64 (m : Int), .int .i64 o, .slice A L.length c] 48)).alloc (.cells #[.func (.func 20) #[] #[], .func (.func 21) #[] #[], .func (.func 22) #[] #[], .func (.func 23) #[] #[], .func (.func 24) #[] #[]] 50) = w2 at *
  have HS := Lib.hid hs
  clear hs
  have HX := Lib.hid X3
  have HZ := Lib.hid Z3
  have HB := Lib.hid B3
  clear X3 Z3 B3
  generalize w1.heap.size = h at *
  go_loopw [20] (fun t wr => ∃ k : Nat, k ≤ 5 ∧ t = .int .i64 (k : Int) ∧ Below w.heap.size w wr ∧ Hx wr h m o A L.length c ∧ Cx wr w.heap.size c0 none 0 ∧ ∀ j < k, b j = false) (fun t _ => 6 - (intOf t).toNat)
  case atStart => exact ⟨0, Nat.zero_le _, rfl, HB.out, HX.out, HZ.out, fun j h => absurd h (Nat.not_lt_zero _)⟩
  case round =>
    obtain ⟨k, hk, rfl, B4, X4, Z4, hno⟩ := hrel
    have HNO := Lib.hid hno
    clear hno HX HZ HB
    by_cases hlt : k < 5
    · obtain ⟨x0, x1, x2⟩ := id X4.cells
      have S4 := HS.out.to B4 B4.size
      have l4 := X4.lt
      have hsz := B4.size
      have hcase : k = 0 ∨ k = 1 ∨ k = 2 ∨ k = 3 ∨ k = 4 := by omega
      rcases hcase with rfl | rfl | rfl | rfl | rfl
      · rw [show (((0 : Nat)) : Int) = 0 from rfl]
        have HF := F0 wr S4
        have HDk := Lib.hid (HD.out 0 (by omega))
        generalize hbk : b 0 = bk at *
        clear F0 F1 F2 F3 F4 HN HD S4
        have HI : ∀ W, (Instr.index 50 (.agg #[.func (.func 20) #[] #[], .func (.func 21) #[] #[], .func (.func 22) #[] #[], .func (.func 23) #[] #[], .func (.func 24) #[] #[]]) (.int .i64 0)).run Try.prog W = .ok (.func (.func 20) #[] #[]) W := fun _ => by kernel_rfl
        go_wp2_with fail
        refine HF.out.mono ?_
        rintro e w3 ⟨A9, c9, rfl, f3, b3⟩
        have X5 := X4.on b3 X4.lt
        have Z5 := Z4.on b3 Z4.lt
        have B5 := B4.trans (b3.mono hsz)
        have b6 : Below w3.heap.size w3 (w3.alloc (.cells (chc (C 0) A9 c9) 32)) := (Below.refl _ _).alloc (Nat.le_refl _) _
        have N6 := cx_new w3 (C 0) A9 c9
        have X6 := X5.on b6 X5.lt
        have Z6 := Z5.on b6 Z5.lt
        have B6 := B5.trans (b6.mono B5.size)
        have f6 := f3.on b6
        have l6 := Z4.lt
        clear HF X4 Z4 B4 b3 X5 Z5 B5 b6 x0 x1 x2
        obtain ⟨n0, n1, n2, n3, n4, n5, n6, n7, n8⟩ := id N6.cc
        obtain ⟨z0, z1, z2, z3, z4, z5, z6, z7, z8⟩ := id Z6.cc
        have g0 := Z6.free 0
        have g1 := Z6.free 1
        have g2 := Z6.free 2
        have g3 := Z6.free 3
        have g4 := Z6.free 4
        have g5 := Z6.free 5
        have g6 := Z6.free 6
        have g7 := Z6.free 7
        have g8 := Z6.free 8
        cases bk
        · go_wp2
          go_roundw
          case rel => exact ⟨1, by omega, by go_num, B6, X6, Z6, fun j hj => by
            rcases Nat.lt_or_ge j 0 with h | h
            · exact HNO.out j h
            · obtain rfl : j = 0 := by omega
              exact hbk⟩
          case measure => simp [intOf]
        · have e9 : d = C 0 := HDk.out (by first | rfl | trivial) HNO.out
          have E9 := Lib.hid e9
          clear e9 HDk
          go_wp2
          exact bodyPost_ret (v := chv (C 0) A9 c9) (run_decide (B := w.heap.size) rfl (Z6.put (C 0) A9 c9)) rfl (by rw [E9.out]; exact ⟨A9, c9, rfl, (f6.cput (B := w.heap.size) l6 (C 0) A9 c9).mono hsz, below_cput B6 (B := w.heap.size) (Nat.le_refl _) (C 0) A9 c9⟩)
      · rw [show (((1 : Nat)) : Int) = 1 from rfl]
        have HF := F1 wr S4
        have HDk := Lib.hid (HD.out 1 (by omega))
        generalize hbk : b 1 = bk at *
        clear F0 F1 F2 F3 F4 HN HD S4
        have HI : ∀ W, (Instr.index 50 (.agg #[.func (.func 20) #[] #[], .func (.func 21) #[] #[], .func (.func 22) #[] #[], .func (.func 23) #[] #[], .func (.func 24) #[] #[]]) (.int .i64 1)).run Try.prog W = .ok (.func (.func 21) #[] #[]) W := fun _ => by kernel_rfl
        go_wp2_with fail
        refine HF.out.mono ?_
        rintro e w3 ⟨A9, c9, rfl, f3, b3⟩
        have X5 := X4.on b3 X4.lt
        have Z5 := Z4.on b3 Z4.lt
        have B5 := B4.trans (b3.mono hsz)
        have b6 : Below w3.heap.size w3 (w3.alloc (.cells (chc (C 1) A9 c9) 32)) := (Below.refl _ _).alloc (Nat.le_refl _) _
        have N6 := cx_new w3 (C 1) A9 c9
        have X6 := X5.on b6 X5.lt
        have Z6 := Z5.on b6 Z5.lt
        have B6 := B5.trans (b6.mono B5.size)
        have f6 := f3.on b6
        have l6 := Z4.lt
        clear HF X4 Z4 B4 b3 X5 Z5 B5 b6 x0 x1 x2
        obtain ⟨n0, n1, n2, n3, n4, n5, n6, n7, n8⟩ := id N6.cc
        obtain ⟨z0, z1, z2, z3, z4, z5, z6, z7, z8⟩ := id Z6.cc
        have g0 := Z6.free 0
        have g1 := Z6.free 1
        have g2 := Z6.free 2
        have g3 := Z6.free 3
        have g4 := Z6.free 4
        have g5 := Z6.free 5
        have g6 := Z6.free 6
        have g7 := Z6.free 7
        have g8 := Z6.free 8
        cases bk
        · go_wp2
          go_roundw
          case rel => exact ⟨2, by omega, by go_num, B6, X6, Z6, fun j hj => by
            rcases Nat.lt_or_ge j 1 with h | h
            · exact HNO.out j h
            · obtain rfl : j = 1 := by omega
              exact hbk⟩
          case measure => simp [intOf]
        · have e9 : d = C 1 := HDk.out (by first | rfl | trivial) HNO.out
          have E9 := Lib.hid e9
          clear e9 HDk
          go_wp2
          exact bodyPost_ret (v := chv (C 1) A9 c9) (run_decide (B := w.heap.size) rfl (Z6.put (C 1) A9 c9)) rfl (by rw [E9.out]; exact ⟨A9, c9, rfl, (f6.cput (B := w.heap.size) l6 (C 1) A9 c9).mono hsz, below_cput B6 (B := w.heap.size) (Nat.le_refl _) (C 1) A9 c9⟩)
      · rw [show (((2 : Nat)) : Int) = 2 from rfl]
        have HF := F2 wr S4
        have HDk := Lib.hid (HD.out 2 (by omega))
        generalize hbk : b 2 = bk at *
        clear F0 F1 F2 F3 F4 HN HD S4
        have HI : ∀ W, (Instr.index 50 (.agg #[.func (.func 20) #[] #[], .func (.func 21) #[] #[], .func (.func 22) #[] #[], .func (.func 23) #[] #[], .func (.func 24) #[] #[]]) (.int .i64 2)).run Try.prog W = .ok (.func (.func 22) #[] #[]) W := fun _ => by kernel_rfl
        go_wp2_with fail
        refine HF.out.mono ?_
        rintro e w3 ⟨A9, c9, rfl, f3, b3⟩
        have X5 := X4.on b3 X4.lt
        have Z5 := Z4.on b3 Z4.lt
        have B5 := B4.trans (b3.mono hsz)
        have b6 : Below w3.heap.size w3 (w3.alloc (.cells (chc (C 2) A9 c9) 32)) := (Below.refl _ _).alloc (Nat.le_refl _) _
        have N6 := cx_new w3 (C 2) A9 c9
        have X6 := X5.on b6 X5.lt
        have Z6 := Z5.on b6 Z5.lt
        have B6 := B5.trans (b6.mono B5.size)
        have f6 := f3.on b6
        have l6 := Z4.lt
        clear HF X4 Z4 B4 b3 X5 Z5 B5 b6 x0 x1 x2
        obtain ⟨n0, n1, n2, n3, n4, n5, n6, n7, n8⟩ := id N6.cc
        obtain ⟨z0, z1, z2, z3, z4, z5, z6, z7, z8⟩ := id Z6.cc
        have g0 := Z6.free 0
        have g1 := Z6.free 1
        have g2 := Z6.free 2
        have g3 := Z6.free 3
        have g4 := Z6.free 4
        have g5 := Z6.free 5
        have g6 := Z6.free 6
        have g7 := Z6.free 7
        have g8 := Z6.free 8
        cases bk
        · go_wp2
          go_roundw
          case rel => exact ⟨3, by omega, by go_num, B6, X6, Z6, fun j hj => by
            rcases Nat.lt_or_ge j 2 with h | h
            · exact HNO.out j h
            · obtain rfl : j = 2 := by omega
              exact hbk⟩
          case measure => simp [intOf]
        · have e9 : d = C 2 := HDk.out (by first | rfl | trivial) HNO.out
          have E9 := Lib.hid e9
          clear e9 HDk
          go_wp2
          exact bodyPost_ret (v := chv (C 2) A9 c9) (run_decide (B := w.heap.size) rfl (Z6.put (C 2) A9 c9)) rfl (by rw [E9.out]; exact ⟨A9, c9, rfl, (f6.cput (B := w.heap.size) l6 (C 2) A9 c9).mono hsz, below_cput B6 (B := w.heap.size) (Nat.le_refl _) (C 2) A9 c9⟩)
      · rw [show (((3 : Nat)) : Int) = 3 from rfl]
        have HF := F3 wr S4
        have HDk := Lib.hid (HD.out 3 (by omega))
        generalize hbk : b 3 = bk at *
        clear F0 F1 F2 F3 F4 HN HD S4
        have HI : ∀ W, (Instr.index 50 (.agg #[.func (.func 20) #[] #[], .func (.func 21) #[] #[], .func (.func 22) #[] #[], .func (.func 23) #[] #[], .func (.func 24) #[] #[]]) (.int .i64 3)).run Try.prog W = .ok (.func (.func 23) #[] #[]) W := fun _ => by kernel_rfl
        go_wp2_with fail
        refine HF.out.mono ?_
        rintro e w3 ⟨A9, c9, rfl, f3, b3⟩
        have X5 := X4.on b3 X4.lt
        have Z5 := Z4.on b3 Z4.lt
        have B5 := B4.trans (b3.mono hsz)
        have b6 : Below w3.heap.size w3 (w3.alloc (.cells (chc (C 3) A9 c9) 32)) := (Below.refl _ _).alloc (Nat.le_refl _) _
        have N6 := cx_new w3 (C 3) A9 c9
        have X6 := X5.on b6 X5.lt
        have Z6 := Z5.on b6 Z5.lt
        have B6 := B5.trans (b6.mono B5.size)
        have f6 := f3.on b6
        have l6 := Z4.lt
        clear HF X4 Z4 B4 b3 X5 Z5 B5 b6 x0 x1 x2
        obtain ⟨n0, n1, n2, n3, n4, n5, n6, n7, n8⟩ := id N6.cc
        obtain ⟨z0, z1, z2, z3, z4, z5, z6, z7, z8⟩ := id Z6.cc
        have g0 := Z6.free 0
        have g1 := Z6.free 1
        have g2 := Z6.free 2
        have g3 := Z6.free 3
        have g4 := Z6.free 4
        have g5 := Z6.free 5
        have g6 := Z6.free 6
        have g7 := Z6.free 7
        have g8 := Z6.free 8
        cases bk
        · go_wp2
          go_roundw
          case rel => exact ⟨4, by omega, by go_num, B6, X6, Z6, fun j hj => by
            rcases Nat.lt_or_ge j 3 with h | h
            · exact HNO.out j h
            · obtain rfl : j = 3 := by omega
              exact hbk⟩
          case measure => simp [intOf]
        · have e9 : d = C 3 := HDk.out (by first | rfl | trivial) HNO.out
          have E9 := Lib.hid e9
          clear e9 HDk
          go_wp2
          exact bodyPost_ret (v := chv (C 3) A9 c9) (run_decide (B := w.heap.size) rfl (Z6.put (C 3) A9 c9)) rfl (by rw [E9.out]; exact ⟨A9, c9, rfl, (f6.cput (B := w.heap.size) l6 (C 3) A9 c9).mono hsz, below_cput B6 (B := w.heap.size) (Nat.le_refl _) (C 3) A9 c9⟩)
      · rw [show (((4 : Nat)) : Int) = 4 from rfl]
        have HF := F4 wr S4
        have HDk := Lib.hid (HD.out 4 (by omega))
        generalize hbk : b 4 = bk at *
        clear F0 F1 F2 F3 F4 HN HD S4
        have HI : ∀ W, (Instr.index 50 (.agg #[.func (.func 20) #[] #[], .func (.func 21) #[] #[], .func (.func 22) #[] #[], .func (.func 23) #[] #[], .func (.func 24) #[] #[]]) (.int .i64 4)).run Try.prog W = .ok (.func (.func 24) #[] #[]) W := fun _ => by kernel_rfl
        go_wp2_with fail
        refine HF.out.mono ?_
        rintro e w3 ⟨A9, c9, rfl, f3, b3⟩
        have X5 := X4.on b3 X4.lt
        have Z5 := Z4.on b3 Z4.lt
        have B5 := B4.trans (b3.mono hsz)
        have b6 : Below w3.heap.size w3 (w3.alloc (.cells (chc (C 4) A9 c9) 32)) := (Below.refl _ _).alloc (Nat.le_refl _) _
        have N6 := cx_new w3 (C 4) A9 c9
        have X6 := X5.on b6 X5.lt
        have Z6 := Z5.on b6 Z5.lt
        have B6 := B5.trans (b6.mono B5.size)
        have f6 := f3.on b6
        have l6 := Z4.lt
        clear HF X4 Z4 B4 b3 X5 Z5 B5 b6 x0 x1 x2
        obtain ⟨n0, n1, n2, n3, n4, n5, n6, n7, n8⟩ := id N6.cc
        obtain ⟨z0, z1, z2, z3, z4, z5, z6, z7, z8⟩ := id Z6.cc
        have g0 := Z6.free 0
        have g1 := Z6.free 1
        have g2 := Z6.free 2
        have g3 := Z6.free 3
        have g4 := Z6.free 4
        have g5 := Z6.free 5
        have g6 := Z6.free 6
        have g7 := Z6.free 7
        have g8 := Z6.free 8
        cases bk
        · go_wp2
          go_roundw
          case rel => exact ⟨5, by omega, by go_num, B6, X6, Z6, fun j hj => by
            rcases Nat.lt_or_ge j 4 with h | h
            · exact HNO.out j h
            · obtain rfl : j = 4 := by omega
              exact hbk⟩
          case measure => simp [intOf]
        · have e9 : d = C 4 := HDk.out (by first | rfl | trivial) HNO.out
          have E9 := Lib.hid e9
          clear e9 HDk
          go_wp2
          exact bodyPost_ret (v := chv (C 4) A9 c9) (run_decide (B := w.heap.size) rfl (Z6.put (C 4) A9 c9)) rfl (by rw [E9.out]; exact ⟨A9, c9, rfl, (f6.cput (B := w.heap.size) l6 (C 4) A9 c9).mono hsz, below_cput B6 (B := w.heap.size) (Nat.le_refl _) (C 4) A9 c9⟩)
    · obtain rfl : k = 5 := by omega
      have e9 : d = c4 := HN.out HNO.out
      have E9 := Lib.hid e9
      clear e9 HN HD F0 F1 F2 F3 F4
      rw [show (((5 : Nat)) : Int) = 5 from rfl]
      obtain ⟨z0, z1, z2, z3, z4, z5, z6, z7, z8⟩ := id Z4.cc
      have g0 := Z4.free 0
      have g1 := Z4.free 1
      have g2 := Z4.free 2
      have g3 := Z4.free 3
      have g4 := Z4.free 4
      have g5 := Z4.free 5
      have g6 := Z4.free 6
      have g7 := Z4.free 7
      have g8 := Z4.free 8
      go_wp2
      exact bodyPost_ret (v := chv c4 none 0) (run_decide (B := w.heap.size) rfl (Z4.put c4 none 0)) rfl (by rw [E9.out]; exact ⟨none, 0, rfl, .inl rfl, below_cput B4 (B := w.heap.size) (Nat.le_refl _) c4 none 0⟩)

end Go.Proofs.Ytgmfjoegfbaebaa.Rg
