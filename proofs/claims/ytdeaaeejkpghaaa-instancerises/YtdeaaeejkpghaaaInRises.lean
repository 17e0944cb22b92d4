/-
  The walk of the law InstanceRises: whatever is done, one step behind the other, what was promised never falls, nor does what was voted for at.
-/
import Derived.Test.YtdeaaeejkpghaaaInSs
import Derived.Deep.RegionHeld3
import Derived.Deep.DeepCutAuto
namespace Go.Proofs.Ytdeaaeejkpghaaa.In
open Go.RowKit
set_option linter.unusedVariables false
attribute [local go_sem ↓ high] Ba.eq23 Ba.guard23 Ba.neq23 Ba.guard23n eqc guardc

theorem rises_long (A : Option Addr) (c : Nat) (l : List Sp) (w : World) (hl : (60 : Int) < (l.length : Int)) : Calls Try.prog 3 #[.slice A l.length c] w (UpPost w) := by
  have HA : ∀ W, Hid (Calls Try.prog 6 #[] W (UpPost W)) := fun W => awake_any W
  go_enter Try.func3, Try.ntmps3
  go_wp2_with fail
  refine (HA _).out.mono ?_
  rintro e w1 ⟨rfl, b1⟩
  go_wp2
  go_ret
  exact ⟨rfl, b1⟩

set_option maxHeartbeats 8000000 in
set_option maxRecDepth 20000 in
theorem rises_go (A : Option Addr) (c : Nat) (l : List Sp) (w : World) (hs : Ss w w.heap.size A l) (hl : ¬ (60 : Int) < (l.length : Int)) : Calls Try.prog 3 #[.slice A l.length c] w (UpPost w) := by
  have HA : ∀ W, Hid (Calls Try.prog 6 #[] W (UpPost W)) := fun W => awake_any W
  have HS0 := Lib.hid hs
  have hl' : l.length ≤ 60 := by omega
  clear hs
  go_enter Try.func3, Try.ntmps3
  go_wp2_with fail
  refine (HA _).out.mono ?_
  rintro e w1 ⟨rfl, b1⟩
  go_wp2_with fail
  have Z0 := zero_box w1
  have B0 := b1.alloc b1.size (.cells #[.int .i64 0, .int .i64 0, .int .i64 0, .int .i64 0, .int .i64 0, .int .i64 0, .int .i64 0, .int .i64 0, .int .i64 0, .int .i64 0, .string ⟨#[]⟩, .int .i64 0, .slice none 0 0] 32)
  have hwR := b1.size
  clear HA b1
  generalize (w1.alloc (.cells #[.int .i64 0, .int .i64 0, .int .i64 0, .int .i64 0, .int .i64 0, .int .i64 0, .int .i64 0, .int .i64 0, .int .i64 0, .int .i64 0, .string ⟨#[]⟩, .int .i64 0, .slice none 0 0] 32)) = W0 at *
  generalize w1.heap.size = R at *
  go_loopw [5] (fun tt wr => ∃ (p : Nat) (r : Rd) (A' : Option Addr) (c' : Nat), p ≤ l.length ∧ tt = .int .i64 (p : Int) ∧ Rx wr R r A' c' ∧ Fr (R + 1) wr A' r.xs ∧ r.xs.length ≤ 50 ∧ ¬ 0 < Ba.cm r.vn r.vb r.pn r.pb ∧ r.st ≤ 3 ∧ Below w.heap.size w wr) (fun tt _ => 61 - (intOf tt).toNat)
  case atStart => exact ⟨0, _, _, _, Nat.zero_le _, rfl, Z0, .inl rfl, by simp, by decide, by decide, B0⟩
  case round =>
    obtain ⟨p, r, A', c', hp, rfl, X, FX, h50, hv, h3, BW⟩ := hrel
    by_cases hlp : p < l.length
    · have hlpi : (p : Int) < (l.length : Int) := by omega
      have hp0 : (0 : Int) ≤ (p : Int) := by omega
      rcases HS0.out.to BW BW.size with rfl | ⟨b, off, rfl, hb, hc⟩
      · simp at hlp
      obtain ⟨hq, hsl⟩ := hc p l[p] (List.getElem?_eq_getElem hlp)
      have hbw : b < w.heap.size := by
        rcases HS0.out with h | ⟨b', off', h1, h2, _⟩
        · simp [h] at hlp
        · cases h1; exact h2
      generalize l[p] = st at *
      obtain ⟨q, Aq, cq⟩ := st
      have hq : Sq _ b (off + p * 11) q Aq cq := hq
      have hsl : At.Sl _ _ .i64 Aq q.xs := hsl
      clear hc
      have HF : ∀ W, Hid (Calls Try.prog 7 #[av q.q Aq q.xs.length cq] W (At.BoolPost W (decide ((q.xs.length : Int) ≤ 50)))) := fun W => At.few_any q.q Aq q.xs.length cq W
      have hq' := Lib.hid hq
      obtain ⟨s0, s1, s2, s3, s4, s5, s6, s7, s8, s9, s10⟩ := hq
      by_cases hg : (q.xs.length : Int) ≤ 50
      · rw [decide_eq_true hg] at HF
        go_wp2_with fail
        clear s0 s1 s2 s3 s4 s5 s6 s7 s8 s9 s10
        refine (HF _).out.mono ?_
        rintro e wr' ⟨rfl, b1⟩
        rename_i wr
        have X1 := X.on b1 X.lt
        have F1 := FX.on b1
        have BW1 := BW.trans (b1.mono BW.size)
        have q1 := hq'.out.on b1 hb
        have s1 := hsl.up b1
        have hb1 : b < wr'.heap.size := Nat.lt_of_lt_of_le hb b1.size
        clear X FX BW hq' hsl b1 hb HF
        have HD : ∀ W, Below wr'.heap.size wr' W → Hid (Calls Try.prog 8 #[rv r A' c', sv q Aq cq] W (VotePost W (ds r q) (db r q))) := fun W g => does_any r q A' Aq c' cq W (F1.sl.up g) (s1.up g) (by omega) (by omega)
        obtain ⟨hR1, hR2, hR3, hR4, hR5, hR6⟩ := rises (r := r) (p := q) (by omega) h3
        have hx50 : (ds r q).xs.length ≤ 50 := ds_le h50 (by omega)
        have hRl : R < wr'.heap.size := X1.lt
        generalize ds r q = x at *
        generalize db r q = bx at *
        go_upto_region 11 with fail
        have SB : Hid (∀ v, Below wr'.heap.size wr' v → ((v.cell? ⟨R, 0, none⟩ = some (.int .i64 r.st) ∧ v.cell? ⟨R, 1, none⟩ = some (.int .i64 r.pn) ∧ v.cell? ⟨R, 2, none⟩ = some (.int .i64 r.pb) ∧ v.cell? ⟨R, 3, none⟩ = some (.int .i64 r.vn) ∧ v.cell? ⟨R, 4, none⟩ = some (.int .i64 r.vb) ∧ v.cell? ⟨R, 5, none⟩ = some (.int .i64 r.u) ∧ v.cell? ⟨R, 6, none⟩ = some (.int .i64 r.s) ∧ v.cell? ⟨R, 7, none⟩ = some (.int .i64 r.k) ∧ v.cell? ⟨R, 8, none⟩ = some (.int .i64 r.h) ∧ v.cell? ⟨R, 9, none⟩ = some (.int .i64 r.n) ∧ v.cell? ⟨R, 10, none⟩ = some (.string r.t) ∧ v.cell? ⟨R, 11, none⟩ = some (.int .i64 r.q) ∧ v.cell? ⟨R, 12, none⟩ = some (.slice A' r.xs.length c')) ∧ (v.cell? ⟨b, off + p * 11, none⟩ = some (.int .i64 q.g) ∧ v.cell? ⟨b, off + p * 11 + 1, none⟩ = some (.int .i64 q.x) ∧ v.cell? ⟨b, off + p * 11 + 2, none⟩ = some (.int .i64 q.y) ∧ v.cell? ⟨b, off + p * 11 + 3, none⟩ = some (.int .i64 q.u) ∧ v.cell? ⟨b, off + p * 11 + 4, none⟩ = some (.int .i64 q.s) ∧ v.cell? ⟨b, off + p * 11 + 5, none⟩ = some (.int .i64 q.k) ∧ v.cell? ⟨b, off + p * 11 + 6, none⟩ = some (.int .i64 q.h) ∧ v.cell? ⟨b, off + p * 11 + 7, none⟩ = some (.int .i64 q.n) ∧ v.cell? ⟨b, off + p * 11 + 8, none⟩ = some (.string q.t) ∧ v.cell? ⟨b, off + p * 11 + 9, none⟩ = some (.int .i64 q.q) ∧ v.cell? ⟨b, off + p * 11 + 10, none⟩ = some (.slice Aq q.xs.length cq)))) := fun v g => ⟨(X1.on g hRl).rb, q1.on g hb1⟩
        have BD : Hid (Below wr'.heap.size wr' wr'.drew) := (Below.refl _ _).drew
        have bA : Hid (Below wr'.heap.size wr' (wr'.alloc (.cells #[.int .i64 0, .int .i64 0, .int .i64 0, .int .i64 0, .int .i64 0, .int .i64 0, .int .i64 0, .int .i64 0, .int .i64 0, .int .i64 0, .string ⟨#[]⟩, .int .i64 0, .slice none 0 0] 32)).drew) := ((Below.refl _ _).alloc (Nat.le_refl _) _).drew
        have ZA : Hid (Rx (wr'.alloc (.cells #[.int .i64 0, .int .i64 0, .int .i64 0, .int .i64 0, .int .i64 0, .int .i64 0, .int .i64 0, .int .i64 0, .int .i64 0, .int .i64 0, .string ⟨#[]⟩, .int .i64 0, .slice none 0 0] 32)).drew wr'.heap.size ⟨0, 0, 0, 0, 0, 0, 0, 0, 0, 0, ⟨#[]⟩, 0, []⟩ none 0) := zero_box wr'
        have hX1 := Lib.hid X1
        have hF1 := Lib.hid F1
        have hBW1 := Lib.hid BW1
        have hR35 := Lib.hid (And.intro hR3 (And.intro hR4 hR5))
        clear X1 F1 BW1 q1 s1 hR3 hR4 hR5
        go_cut [7, 8] (fun s7 s8 wc => ∃ (L : Nat) (A9 : Option Addr) (c9 : Nat), s7 = .pointer (some ⟨L, 0, none⟩) ∧ s8 = .bool bx ∧ Rx wc L x A9 c9 ∧ Fr wr'.heap.size wc A9 x.xs ∧ Below wr'.heap.size wr' wc)
        case first =>
          refine wp_region_held_drew (S := fun v => Below wr'.heap.size wr' v) (by kernel_rfl) BD.out (fun hH => ?_)
          refine wpAnyH_take (i := 0) (v := ?v1) rfl (by kernel_rfl) (by kernel_rfl) (by kernel_rfl) (fun _ _ _ h => h) (Or.inl ⟨by rfl, ?hy1⟩) hH ?rest1
          case hy1 => (intro w hSw; (try dsimp only at hSw); obtain ⟨⟨r0, r1, r2, r3, r4, r5, r6, r7, r8, r9, r10, r11, r12⟩, ⟨s0, s1, s2, s3, s4, s5, s6, s7, s8, s9, s10⟩⟩ := SB.out w hSw; go_simp; try with_reducible rfl)
          try simp only [Act.put, List.setIfInBounds_toArray, List.set_cons_zero, List.set_cons_succ, List.getElem_toArray, List.getElem_cons_zero]
          refine wpAnyH_take (i := 1) (v := ?v2) rfl (by kernel_rfl) (by kernel_rfl) (by kernel_rfl) (fun _ _ _ h => h) (Or.inl ⟨by rfl, ?hy2⟩) hH ?rest2
          case hy2 => (intro w hSw; (try dsimp only at hSw); obtain ⟨⟨r0, r1, r2, r3, r4, r5, r6, r7, r8, r9, r10, r11, r12⟩, ⟨s0, s1, s2, s3, s4, s5, s6, s7, s8, s9, s10⟩⟩ := SB.out w hSw; go_simp; try with_reducible rfl)
          try simp only [Act.put, List.setIfInBounds_toArray, List.set_cons_zero, List.set_cons_succ, List.getElem_toArray, List.getElem_cons_zero, List.getElem_cons_succ]
          refine wpAnyH_take (i := 2) (v := ?v3) rfl (by kernel_rfl) (by kernel_rfl) (by kernel_rfl) (fun _ _ _ h => h) (Or.inl ⟨by rfl, ?hy3⟩) hH ?rest3
          case hy3 => (intro w hSw; (try dsimp only at hSw); obtain ⟨⟨r0, r1, r2, r3, r4, r5, r6, r7, r8, r9, r10, r11, r12⟩, ⟨s0, s1, s2, s3, s4, s5, s6, s7, s8, s9, s10⟩⟩ := SB.out w hSw; go_simp; try with_reducible rfl)
          try simp only [Act.put, List.setIfInBounds_toArray, List.set_cons_zero, List.set_cons_succ, List.getElem_toArray, List.getElem_cons_zero, List.getElem_cons_succ]
          refine wpAnyH_take (i := 3) (v := ?v4) rfl (by kernel_rfl) (by kernel_rfl) (by kernel_rfl) (fun _ _ _ h => h) (Or.inl ⟨by rfl, ?hy4⟩) hH ?rest4
          case hy4 => (intro w hSw; (try dsimp only at hSw); obtain ⟨⟨r0, r1, r2, r3, r4, r5, r6, r7, r8, r9, r10, r11, r12⟩, ⟨s0, s1, s2, s3, s4, s5, s6, s7, s8, s9, s10⟩⟩ := SB.out w hSw; go_simp; try with_reducible rfl)
          try simp only [Act.put, List.setIfInBounds_toArray, List.set_cons_zero, List.set_cons_succ, List.getElem_toArray, List.getElem_cons_zero, List.getElem_cons_succ]
          refine wpAnyH_take (i := 4) (v := ?v5) rfl (by kernel_rfl) (by kernel_rfl) (by kernel_rfl) (fun _ _ _ h => h) (Or.inl ⟨by rfl, ?hy5⟩) hH ?rest5
          case hy5 => (intro w hSw; (try dsimp only at hSw); obtain ⟨⟨r0, r1, r2, r3, r4, r5, r6, r7, r8, r9, r10, r11, r12⟩, ⟨s0, s1, s2, s3, s4, s5, s6, s7, s8, s9, s10⟩⟩ := SB.out w hSw; go_simp; try with_reducible rfl)
          try simp only [Act.put, List.setIfInBounds_toArray, List.set_cons_zero, List.set_cons_succ, List.getElem_toArray, List.getElem_cons_zero, List.getElem_cons_succ]
          refine wpAnyH_ready (rs := [5, 9]) (by kernel_rfl) (by simp) ?_
          refine AllReadyH.cons rfl (fun K hK => ?_) (AllReadyH.cons rfl (fun K hK => ?_) AllReadyH.nil)
          · go_simp
            go_at_call 8
            with_reducible refine (HD _ hH).out.mono ?_
            rintro e w5 ⟨A9, c9, rfl, f5, b5⟩
            go_wp2_with fail
            have hH3 := hH.trans (b5.mono hH.size)
            have F5 := f5.mono (D' := wr'.heap.size) hH.size
            have hz := hH.size
            refine hK.out _ _ hH3 (fun hH2 => ?_)
            clear hK K hH
            have hH := hH2
            clear hH2 hH3
            try simp only [Act.put, List.setIfInBounds_toArray, List.set_cons_zero, List.set_cons_succ, List.getElem_toArray, List.getElem_cons_zero, List.getElem_cons_succ]
            refine wpAnyH_take (i := 6) (v := ?v6) rfl (by kernel_rfl) (by kernel_rfl) (by kernel_rfl) (fun _ _ _ h => h) (Or.inl ⟨by rfl, ?hy6⟩) hH ?rest6
            case hy6 => (intro w hSw; (try dsimp only at hSw); go_simp; try with_reducible rfl)
            try simp only [Act.put, List.setIfInBounds_toArray, List.set_cons_zero, List.set_cons_succ, List.getElem_toArray, List.getElem_cons_zero, List.getElem_cons_succ]
            refine wpAnyH_take (i := 7) (v := ?v7) rfl (by kernel_rfl) (by kernel_rfl) (by kernel_rfl) (fun _ _ _ h => h) (Or.inl ⟨by rfl, ?hy7⟩) hH ?rest7
            case hy7 => (intro w hSw; (try dsimp only at hSw); go_simp; try with_reducible rfl)
            try simp only [Act.put, List.setIfInBounds_toArray, List.set_cons_zero, List.set_cons_succ, List.getElem_toArray, List.getElem_cons_zero, List.getElem_cons_succ]
            refine wpAnyH_take (i := 8) (v := ?v8) rfl (by kernel_rfl) (by kernel_rfl) (by kernel_rfl) (fun _ _ _ h => h) (Or.inl ⟨by rfl, ?hy8⟩) hH ?rest8
            case hy8 => (intro w hSw; (try dsimp only at hSw); go_simp; try with_reducible rfl)
            try simp only [Act.put, List.setIfInBounds_toArray, List.set_cons_zero, List.set_cons_succ, List.getElem_toArray, List.getElem_cons_zero, List.getElem_cons_succ]
            refine wpAnyH_ready (rs := [9]) (by kernel_rfl) (by simp) ?_
            refine AllReadyH.cons rfl (fun K hK => ?_) AllReadyH.nil
            have hB5 := hH
            go_simp
            refine hK.out _ _ (hH.alloc hH.size _) (fun hH2 => ?_)
            clear hK K hH
            have hH := hH2
            clear hH2
            try simp only [Act.put, List.setIfInBounds_toArray, List.set_cons_zero, List.set_cons_succ, List.getElem_toArray, List.getElem_cons_zero, List.getElem_cons_succ]
            refine wpAnyH_ready (rs := [10]) (by kernel_rfl) (by simp) ?_
            refine AllReadyH.cons rfl (fun K hK => ?_) AllReadyH.nil
            have E5 := Lib.hid (rx_new w5 x A9 c9)
            have F6 := Lib.hid (F5.on ((Below.refl _ _).alloc (Nat.le_refl _) (.cells (rcs x A9 c9) 32)))
            have B6 := Lib.hid (hB5.alloc hB5.size (.cells (rcs x A9 c9) 32))
            go_simp
            refine hK.out _ _ B6.out (fun hH2 => ?_)
            clear hK K hH
            have hH := hH2
            clear hH2
            try simp only [Act.put, List.setIfInBounds_toArray, List.set_cons_zero, List.set_cons_succ, List.getElem_toArray, List.getElem_cons_zero, List.getElem_cons_succ]
            refine wpAnyH_take (i := 11) (v := ?v9) rfl (by kernel_rfl) (by kernel_rfl) (by kernel_rfl) (fun _ _ _ h => h) (Or.inl ⟨by rfl, ?hy9⟩) hH ?rest9
            case hy9 => (intro w hSw; (try dsimp only at hSw); go_simp; try with_reducible rfl)
            try simp only [Act.put, List.setIfInBounds_toArray, List.set_cons_zero, List.set_cons_succ, List.getElem_toArray, List.getElem_cons_zero, List.getElem_cons_succ]
            refine wpAnyH_done (by kernel_rfl) ?_ _
            go_wp2_with fail
            go_meet
            exact ⟨_, A9, c9, rfl, rfl, E5.out, F6.out, B6.out⟩
          · go_simp
            refine hK.out _ _ (hH.alloc hH.size _) (fun hH2 => ?_)
            clear hK K hH
            have hH := hH2
            clear hH2
            try simp only [Act.put, List.setIfInBounds_toArray, List.set_cons_zero, List.set_cons_succ, List.getElem_toArray, List.getElem_cons_zero, List.getElem_cons_succ]
            refine wpAnyH_ready (rs := [5]) (by kernel_rfl) (by simp) ?_
            refine AllReadyH.cons rfl (fun K hK => ?_) AllReadyH.nil
            go_simp
            go_at_call 8
            with_reducible refine (HD _ hH).out.mono ?_
            rintro e w5 ⟨A9, c9, rfl, f5, b5⟩
            go_wp2_with fail
            have hH3 := hH.trans (b5.mono hH.size)
            have F5 := f5.mono (D' := wr'.heap.size) hH.size
            have hz := hH.size
            refine hK.out _ _ hH3 (fun hH2 => ?_)
            clear hK K hH
            have hH := hH2
            clear hH2 hH3
            try simp only [Act.put, List.setIfInBounds_toArray, List.set_cons_zero, List.set_cons_succ, List.getElem_toArray, List.getElem_cons_zero, List.getElem_cons_succ]
            refine wpAnyH_take (i := 6) (v := ?v10) rfl (by kernel_rfl) (by kernel_rfl) (by kernel_rfl) (fun _ _ _ h => h) (Or.inl ⟨by rfl, ?hy10⟩) hH ?rest10
            case hy10 => (intro w hSw; (try dsimp only at hSw); go_simp; try with_reducible rfl)
            try simp only [Act.put, List.setIfInBounds_toArray, List.set_cons_zero, List.set_cons_succ, List.getElem_toArray, List.getElem_cons_zero, List.getElem_cons_succ]
            refine wpAnyH_take (i := 7) (v := ?v11) rfl (by kernel_rfl) (by kernel_rfl) (by kernel_rfl) (fun _ _ _ h => h) (Or.inl ⟨by rfl, ?hy11⟩) hH ?rest11
            case hy11 => (intro w hSw; (try dsimp only at hSw); go_simp; try with_reducible rfl)
            try simp only [Act.put, List.setIfInBounds_toArray, List.set_cons_zero, List.set_cons_succ, List.getElem_toArray, List.getElem_cons_zero, List.getElem_cons_succ]
            refine wpAnyH_take (i := 8) (v := ?v12) rfl (by kernel_rfl) (by kernel_rfl) (by kernel_rfl) (fun _ _ _ h => h) (Or.inl ⟨by rfl, ?hy12⟩) hH ?rest12
            case hy12 => (intro w hSw; (try dsimp only at hSw); go_simp; try with_reducible rfl)
            try simp only [Act.put, List.setIfInBounds_toArray, List.set_cons_zero, List.set_cons_succ, List.getElem_toArray, List.getElem_cons_zero, List.getElem_cons_succ]
            refine wpAnyH_ready (rs := [10]) (by kernel_rfl) (by simp) ?_
            refine AllReadyH.cons rfl (fun K hK => ?_) AllReadyH.nil
            have Z5 := ZA.out.on b5 ZA.out.lt
            have fz := Z5.free
            obtain ⟨z0, z1, z2, z3, z4, z5, z6, z7, z8, z9, z10, z11, z12⟩ := id Z5.rb
            have E5 := Lib.hid (Z5.put x A9 c9)
            have F6 := Lib.hid ((f5.put (B := wr'.heap.size) ZA.out.lt x A9 c9).mono (D' := wr'.heap.size) hz)
            have B6 := Lib.hid (below_put hH (B := wr'.heap.size) (Nat.le_refl _) x A9 c9)
            clear Z5
            go_simp
            refine hK.out _ _ B6.out (fun hH2 => ?_)
            clear hK K hH
            have hH := hH2
            clear hH2
            try simp only [Act.put, List.setIfInBounds_toArray, List.set_cons_zero, List.set_cons_succ, List.getElem_toArray, List.getElem_cons_zero, List.getElem_cons_succ]
            refine wpAnyH_take (i := 11) (v := ?v13) rfl (by kernel_rfl) (by kernel_rfl) (by kernel_rfl) (fun _ _ _ h => h) (Or.inl ⟨by rfl, ?hy13⟩) hH ?rest13
            case hy13 => (intro w hSw; (try dsimp only at hSw); go_simp; try with_reducible rfl)
            try simp only [Act.put, List.setIfInBounds_toArray, List.set_cons_zero, List.set_cons_succ, List.getElem_toArray, List.getElem_cons_zero, List.getElem_cons_succ]
            refine wpAnyH_done (by kernel_rfl) ?_ _
            go_wp2_with fail
            go_meet
            exact ⟨_, A9, c9, rfl, rfl, E5.out, F6.out, B6.out⟩
        case rest =>
        obtain ⟨L, A9, c9, rfl, rfl, XL0, FL0, hbc⟩ := hcut
        have XR0 := hX1.out.on hbc hRl
        have FR0 := hF1.out.on hbc
        have BX0 := hBW1.out.trans (hbc.mono hBW1.out.size)
        have hRD : R < wr'.heap.size := hRl
        obtain ⟨hR3, hR4, hR5⟩ := hR35.out
        clear hX1 hF1 hBW1 hbc SB BD bA ZA HD hR35
        rcases hc : (r.st == 3) with _ | _
        · by_cases hst : x.st < r.st
          · have H1 : ∀ W, Hid (Calls Try.prog 9 #[bv x.pn x.pb, bv r.pn r.pb] W (Ba.IntPost W (Ba.cm x.pn x.pb r.pn r.pb))) := fun W => Ba.cmp_any _ _ _ _ W
            have H2 : ∀ W, Hid (Calls Try.prog 9 #[bv x.vn x.vb, bv r.vn r.vb] W (Ba.IntPost W (Ba.cm x.vn x.vb r.vn r.vb))) := fun W => Ba.cmp_any _ _ _ _ W
            have H3 : ∀ W, Hid (Calls Try.prog 9 #[bv x.vn x.vb, bv x.pn x.pb] W (Ba.IntPost W (Ba.cm x.vn x.vb x.pn x.pb))) := fun W => Ba.cmp_any _ _ _ _ W
            have hm4 := hR4 hst
            have FIN := Lib.hid (And.intro hx50 (And.intro hR3 hR6))
            clear hR4 hR5 hR6 hx50
            generalize Ba.cm x.pn x.pb r.pn r.pb = m1 at *
            generalize Ba.cm x.vn x.vb r.vn r.vb = m2 at *
            obtain ⟨m3, hm3⟩ : ∃ m3, Ba.cm x.vn x.vb x.pn x.pb = m3 := ⟨_, rfl⟩
            rw [hm3] at H3 hR3
            clear hm3
            obtain ⟨r0, r1, r2, r3, r4, r5, r6, r7, r8, r9, r10, r11, r12⟩ := id XR0.rb
            obtain ⟨x0, x1, x2, x3, x4, x5, x6, x7, x8, x9, x10, x11, x12⟩ := id XL0.rb
            go_wp2_with fail
            clear r0 r1 r2 r3 r4 r5 r6 r7 r8 r9 r10 r11 r12 x0 x1 x2 x3 x4 x5 x6 x7 x8 x9 x10 x11 x12
            refine (H1 _).out.mono ?_
            rintro e v1 ⟨rfl, b1⟩
            have XR1 := XR0.on b1 XR0.lt
            have XL1 := XL0.on b1 XL0.lt
            have FR1 := FR0.on b1
            have FL1 := FL0.on b1
            have BX1 := BX0.trans (b1.mono BX0.size)
            clear b1 XR0 XL0 FR0 FL0 BX0
            obtain ⟨r0, r1, r2, r3, r4, r5, r6, r7, r8, r9, r10, r11, r12⟩ := id XR1.rb
            obtain ⟨x0, x1, x2, x3, x4, x5, x6, x7, x8, x9, x10, x11, x12⟩ := id XL1.rb
            go_wp2_with fail
            clear r0 r1 r2 r3 r4 r5 r6 r7 r8 r9 r10 r11 r12 x0 x1 x2 x3 x4 x5 x6 x7 x8 x9 x10 x11 x12
            refine (H2 _).out.mono ?_
            rintro e v2 ⟨rfl, b2⟩
            have XR2 := XR1.on b2 XR1.lt
            have XL2 := XL1.on b2 XL1.lt
            have FR2 := FR1.on b2
            have FL2 := FL1.on b2
            have BX2 := BX1.trans (b2.mono BX1.size)
            clear b2 XR1 XL1 FR1 FL1 BX1
            obtain ⟨r0, r1, r2, r3, r4, r5, r6, r7, r8, r9, r10, r11, r12⟩ := id XR2.rb
            obtain ⟨x0, x1, x2, x3, x4, x5, x6, x7, x8, x9, x10, x11, x12⟩ := id XL2.rb
            go_wp2_with fail
            clear r0 r1 r2 r3 r4 r5 r6 r7 r8 r9 r10 r11 r12 x0 x1 x2 x3 x4 x5 x6 x7 x8 x9 x10 x11 x12
            refine (H3 _).out.mono ?_
            rintro e v3 ⟨rfl, b3⟩
            have XR3 := XR2.on b3 XR2.lt
            have XL3 := XL2.on b3 XL2.lt
            have FR3 := FR2.on b3
            have FL3 := FL2.on b3
            have BX3 := BX2.trans (b3.mono BX2.size)
            clear b3 XR2 XL2 FR2 FL2 BX2
            obtain ⟨r0, r1, r2, r3, r4, r5, r6, r7, r8, r9, r10, r11, r12⟩ := id XR3.rb
            obtain ⟨x0, x1, x2, x3, x4, x5, x6, x7, x8, x9, x10, x11, x12⟩ := id XL3.rb
            go_wp2_with fail
            clear r0 r1 r2 r3 r4 r5 r6 r7 r8 r9 r10 r11 r12 x0 x1 x2 x3 x4 x5 x6 x7 x8 x9 x10 x11 x12
            refine (H2 _).out.mono ?_
            rintro e v4 ⟨rfl, b4⟩
            have XR4 := XR3.on b4 XR3.lt
            have XL4 := XL3.on b4 XL3.lt
            have FR4 := FR3.on b4
            have FL4 := FL3.on b4
            have BX4 := BX3.trans (b4.mono BX3.size)
            clear b4 XR3 XL3 FR3 FL3 BX3
            have XP := XR4.put x A9 c9
            have FP := FL4.put (B := R) hRD x A9 c9
            have BP := below_put BX4 (B := R) hwR x A9 c9
            have fr9 := XR4.free
            have RX := XR4.lt
            have LX := XL4.lt
            obtain ⟨r0, r1, r2, r3, r4, r5, r6, r7, r8, r9, r10, r11, r12⟩ := id XR4.rb
            obtain ⟨x0, x1, x2, x3, x4, x5, x6, x7, x8, x9, x10, x11, x12⟩ := id XL4.rb
            have fin := Lib.hid (And.intro XP (And.intro (FP.mono (D' := R + 1) hRD) BP))
            clear XP FP BP XR4 XL4 FR4 FL4 BX4
            go_wp2
            go_roundw
            case rel => exact ⟨p + 1, x, A9, c9, by omega, by go_num, fin.out.1, fin.out.2.1, FIN.out.1, by have := FIN.out.2.1; omega, FIN.out.2.2, fin.out.2.2⟩
            case measure => simp [intOf]; omega
          · have hst' : ¬ x.st < r.st := hst
            have H1 : ∀ W, Hid (Calls Try.prog 9 #[bv x.pn x.pb, bv r.pn r.pb] W (Ba.IntPost W (Ba.cm x.pn x.pb r.pn r.pb))) := fun W => Ba.cmp_any _ _ _ _ W
            have H2 : ∀ W, Hid (Calls Try.prog 9 #[bv x.vn x.vb, bv r.vn r.vb] W (Ba.IntPost W (Ba.cm x.vn x.vb r.vn r.vb))) := fun W => Ba.cmp_any _ _ _ _ W
            have H3 : ∀ W, Hid (Calls Try.prog 9 #[bv x.vn x.vb, bv x.pn x.pb] W (Ba.IntPost W (Ba.cm x.vn x.vb x.pn x.pb))) := fun W => Ba.cmp_any _ _ _ _ W
            have FIN := Lib.hid (And.intro hx50 (And.intro hR3 hR6))
            clear hR4 hR5 hR6 hx50
            generalize Ba.cm x.pn x.pb r.pn r.pb = m1 at *
            generalize Ba.cm x.vn x.vb r.vn r.vb = m2 at *
            obtain ⟨m3, hm3⟩ : ∃ m3, Ba.cm x.vn x.vb x.pn x.pb = m3 := ⟨_, rfl⟩
            rw [hm3] at H3 hR3
            clear hm3
            obtain ⟨r0, r1, r2, r3, r4, r5, r6, r7, r8, r9, r10, r11, r12⟩ := id XR0.rb
            obtain ⟨x0, x1, x2, x3, x4, x5, x6, x7, x8, x9, x10, x11, x12⟩ := id XL0.rb
            go_wp2_with fail
            clear r0 r1 r2 r3 r4 r5 r6 r7 r8 r9 r10 r11 r12 x0 x1 x2 x3 x4 x5 x6 x7 x8 x9 x10 x11 x12
            refine (H1 _).out.mono ?_
            rintro e v1 ⟨rfl, b1⟩
            have XR1 := XR0.on b1 XR0.lt
            have XL1 := XL0.on b1 XL0.lt
            have FR1 := FR0.on b1
            have FL1 := FL0.on b1
            have BX1 := BX0.trans (b1.mono BX0.size)
            clear b1 XR0 XL0 FR0 FL0 BX0
            obtain ⟨r0, r1, r2, r3, r4, r5, r6, r7, r8, r9, r10, r11, r12⟩ := id XR1.rb
            obtain ⟨x0, x1, x2, x3, x4, x5, x6, x7, x8, x9, x10, x11, x12⟩ := id XL1.rb
            go_wp2_with fail
            clear r0 r1 r2 r3 r4 r5 r6 r7 r8 r9 r10 r11 r12 x0 x1 x2 x3 x4 x5 x6 x7 x8 x9 x10 x11 x12
            refine (H2 _).out.mono ?_
            rintro e v2 ⟨rfl, b2⟩
            have XR2 := XR1.on b2 XR1.lt
            have XL2 := XL1.on b2 XL1.lt
            have FR2 := FR1.on b2
            have FL2 := FL1.on b2
            have BX2 := BX1.trans (b2.mono BX1.size)
            clear b2 XR1 XL1 FR1 FL1 BX1
            obtain ⟨r0, r1, r2, r3, r4, r5, r6, r7, r8, r9, r10, r11, r12⟩ := id XR2.rb
            obtain ⟨x0, x1, x2, x3, x4, x5, x6, x7, x8, x9, x10, x11, x12⟩ := id XL2.rb
            go_wp2_with fail
            clear r0 r1 r2 r3 r4 r5 r6 r7 r8 r9 r10 r11 r12 x0 x1 x2 x3 x4 x5 x6 x7 x8 x9 x10 x11 x12
            refine (H3 _).out.mono ?_
            rintro e v3 ⟨rfl, b3⟩
            have XR3 := XR2.on b3 XR2.lt
            have XL3 := XL2.on b3 XL2.lt
            have FR3 := FR2.on b3
            have FL3 := FL2.on b3
            have BX3 := BX2.trans (b3.mono BX2.size)
            clear b3 XR2 XL2 FR2 FL2 BX2
            have XP := XR3.put x A9 c9
            have FP := FL3.put (B := R) hRD x A9 c9
            have BP := below_put BX3 (B := R) hwR x A9 c9
            have fr9 := XR3.free
            have RX := XR3.lt
            have LX := XL3.lt
            obtain ⟨r0, r1, r2, r3, r4, r5, r6, r7, r8, r9, r10, r11, r12⟩ := id XR3.rb
            obtain ⟨x0, x1, x2, x3, x4, x5, x6, x7, x8, x9, x10, x11, x12⟩ := id XL3.rb
            have fin := Lib.hid (And.intro XP (And.intro (FP.mono (D' := R + 1) hRD) BP))
            clear XP FP BP XR3 XL3 FR3 FL3 BX3
            go_wp2
            go_roundw
            case rel => exact ⟨p + 1, x, A9, c9, by omega, by go_num, fin.out.1, fin.out.2.1, FIN.out.1, by have := FIN.out.2.1; omega, FIN.out.2.2, fin.out.2.2⟩
            case measure => simp [intOf]; omega
        · obtain rfl : x = r := hR5 (by first | exact hc | trivial)
          have hst' : ¬ x.st < x.st := Int.lt_irrefl _
          have H1 : ∀ W, Hid (Calls Try.prog 9 #[bv x.pn x.pb, bv x.pn x.pb] W (Ba.IntPost W (Ba.cm x.pn x.pb x.pn x.pb))) := fun W => Ba.cmp_any _ _ _ _ W
          have H2 : ∀ W, Hid (Calls Try.prog 9 #[bv x.vn x.vb, bv x.vn x.vb] W (Ba.IntPost W (Ba.cm x.vn x.vb x.vn x.vb))) := fun W => Ba.cmp_any _ _ _ _ W
          have H3 : ∀ W, Hid (Calls Try.prog 9 #[bv x.vn x.vb, bv x.pn x.pb] W (Ba.IntPost W (Ba.cm x.vn x.vb x.pn x.pb))) := fun W => Ba.cmp_any _ _ _ _ W
          have HS : ∀ W A1 A2 c1 c2, At.Sl W W.heap.size .i64 A1 x.xs → At.Sl W W.heap.size .i64 A2 x.xs → Hid (Calls Try.prog 10 #[rv x A1 c1, rv x A2 c2] W (BoolPost W true)) := fun W A1 A2 c1 c2 g g' => by
            have := same_any x x A1 A2 c1 c2 W g g' (by omega) (by omega)
            rw [sm_self] at this
            exact this
          have FIN := Lib.hid (And.intro hx50 (And.intro hR3 hR6))
          clear hR4 hR5 hR6 hx50
          generalize Ba.cm x.pn x.pb x.pn x.pb = m1 at *
          generalize Ba.cm x.vn x.vb x.vn x.vb = m2 at *
          obtain ⟨m3, hm3⟩ : ∃ m3, Ba.cm x.vn x.vb x.pn x.pb = m3 := ⟨_, rfl⟩
          rw [hm3] at H3 hR3
          clear hm3
          obtain ⟨r0, r1, r2, r3, r4, r5, r6, r7, r8, r9, r10, r11, r12⟩ := id XR0.rb
          obtain ⟨x0, x1, x2, x3, x4, x5, x6, x7, x8, x9, x10, x11, x12⟩ := id XL0.rb
          go_wp2_with fail
          clear r0 r1 r2 r3 r4 r5 r6 r7 r8 r9 r10 r11 r12 x0 x1 x2 x3 x4 x5 x6 x7 x8 x9 x10 x11 x12
          refine (H1 _).out.mono ?_
          rintro e v1 ⟨rfl, b1⟩
          have XR1 := XR0.on b1 XR0.lt
          have XL1 := XL0.on b1 XL0.lt
          have FR1 := FR0.on b1
          have FL1 := FL0.on b1
          have BX1 := BX0.trans (b1.mono BX0.size)
          clear b1 XR0 XL0 FR0 FL0 BX0
          obtain ⟨r0, r1, r2, r3, r4, r5, r6, r7, r8, r9, r10, r11, r12⟩ := id XR1.rb
          obtain ⟨x0, x1, x2, x3, x4, x5, x6, x7, x8, x9, x10, x11, x12⟩ := id XL1.rb
          go_wp2_with fail
          clear r0 r1 r2 r3 r4 r5 r6 r7 r8 r9 r10 r11 r12 x0 x1 x2 x3 x4 x5 x6 x7 x8 x9 x10 x11 x12
          refine (H2 _).out.mono ?_
          rintro e v2 ⟨rfl, b2⟩
          have XR2 := XR1.on b2 XR1.lt
          have XL2 := XL1.on b2 XL1.lt
          have FR2 := FR1.on b2
          have FL2 := FL1.on b2
          have BX2 := BX1.trans (b2.mono BX1.size)
          clear b2 XR1 XL1 FR1 FL1 BX1
          obtain ⟨r0, r1, r2, r3, r4, r5, r6, r7, r8, r9, r10, r11, r12⟩ := id XR2.rb
          obtain ⟨x0, x1, x2, x3, x4, x5, x6, x7, x8, x9, x10, x11, x12⟩ := id XL2.rb
          go_wp2_with fail
          clear r0 r1 r2 r3 r4 r5 r6 r7 r8 r9 r10 r11 r12 x0 x1 x2 x3 x4 x5 x6 x7 x8 x9 x10 x11 x12
          refine (H3 _).out.mono ?_
          rintro e v3 ⟨rfl, b3⟩
          have XR3 := XR2.on b3 XR2.lt
          have XL3 := XL2.on b3 XL2.lt
          have FR3 := FR2.on b3
          have FL3 := FL2.on b3
          have BX3 := BX2.trans (b3.mono BX2.size)
          clear b3 XR2 XL2 FR2 FL2 BX2
          obtain ⟨r0, r1, r2, r3, r4, r5, r6, r7, r8, r9, r10, r11, r12⟩ := id XR3.rb
          obtain ⟨x0, x1, x2, x3, x4, x5, x6, x7, x8, x9, x10, x11, x12⟩ := id XL3.rb
          go_wp2_with fail
          clear r0 r1 r2 r3 r4 r5 r6 r7 r8 r9 r10 r11 r12 x0 x1 x2 x3 x4 x5 x6 x7 x8 x9 x10 x11 x12
          refine (HS _ A9 A' c9 c' FL3.sl FR3.sl).out.mono ?_
          rintro e v4 ⟨rfl, b4⟩
          have XR4 := XR3.on b4 XR3.lt
          have XL4 := XL3.on b4 XL3.lt
          have FR4 := FR3.on b4
          have FL4 := FL3.on b4
          have BX4 := BX3.trans (b4.mono BX3.size)
          clear b4 XR3 XL3 FR3 FL3 BX3
          have XP := XR4.put x A9 c9
          have FP := FL4.put (B := R) hRD x A9 c9
          have BP := below_put BX4 (B := R) hwR x A9 c9
          have fr9 := XR4.free
          have RX := XR4.lt
          have LX := XL4.lt
          obtain ⟨r0, r1, r2, r3, r4, r5, r6, r7, r8, r9, r10, r11, r12⟩ := id XR4.rb
          obtain ⟨x0, x1, x2, x3, x4, x5, x6, x7, x8, x9, x10, x11, x12⟩ := id XL4.rb
          have fin := Lib.hid (And.intro XP (And.intro (FP.mono (D' := R + 1) hRD) BP))
          clear XP FP BP XR4 XL4 FR4 FL4 BX4
          go_wp2
          go_roundw
          case rel => exact ⟨p + 1, x, A9, c9, by omega, by go_num, fin.out.1, fin.out.2.1, FIN.out.1, by have := FIN.out.2.1; omega, FIN.out.2.2, fin.out.2.2⟩
          case measure => simp [intOf]; omega
      · rw [decide_eq_false hg] at HF
        go_wp2_with fail
        clear s0 s1 s2 s3 s4 s5 s6 s7 s8 s9 s10
        refine (HF _).out.mono ?_
        rintro e wr' ⟨rfl, b1⟩
        have BW1 := BW.trans (b1.mono BW.size)
        go_wp2
        go_ret
        exact ⟨rfl, BW1⟩
    · obtain rfl : p = l.length := by omega
      go_wp2
      go_ret
      exact ⟨rfl, BW⟩

theorem rises_any (A : Option Addr) (c : Nat) (l : List Sp) (w : World) (hs : Ss w w.heap.size A l) : Calls Try.prog 3 #[.slice A l.length c] w (UpPost w) := by
  by_cases hl : (60 : Int) < (l.length : Int)
  · exact rises_long A c l w hl
  · exact rises_go A c l w hs hl

end Go.Proofs.Ytdeaaeejkpghaaa.In
