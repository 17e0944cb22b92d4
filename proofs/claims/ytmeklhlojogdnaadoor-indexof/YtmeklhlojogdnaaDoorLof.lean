/-
  What any command waits for, by any that are known, is what the document says: IndexOf answers true whatever the list, the command, the instance and the number; they read as they did. Conditions: none beyond the card's own (the table of what kinds need reads as its initialiser lays it).
-/
import Derived.Test.YtmeklhlojogdnaaDoorAwk
import Derived.Test.YtmeklhlojogdnaaDoorOfr
import Derived.Test.YtmeklhlojogdnaaDoorAtRwi
import Derived.Test.YtmeklhlojogdnaaDoorAtSa
import Derived.Test.YtmeklhlojogdnaaDoorRpt
import Derived.Test.YtmeklhlojogdnaaDoorCards
import Derived.Test.YtmeklhlojogdnaaDoorTie
import Derived.SevenTiedAt
namespace Go.Proofs.YtmeklhlojogdnaaDoor.indexOf
open Go.ChangeShapes Go.WideShapes Go.ChangeAt Go.RowKit Go.Joins
set_option linter.unusedVariables false

attribute [local go_sem ↓ high] eq26 guard26 neq26 guard26n

theorem rsame_yes (N : Nat) (h7 : N ≤ 7) (W : World) (g1 g2 : Nat) (s : Int) (ds : List Int) (hl : ds.length = N) (h1 : At.Rx W g1 ds) (h2 : At.Rx W g2 ds) :
    Calls Tryd.prog 12 #[.agg #[.int .i64 s, .slice (some ⟨g1, 0, none⟩) N N], .agg #[.int .i64 s, .slice (some ⟨g2, 0, none⟩) N N]] W (BoolPost W true) := by
  subst hl
  have := At.rsame_any s s (some ⟨g1, 0, none⟩) (some ⟨g2, 0, none⟩) ds.length ds.length ds ds W h1.sl h2.sl (by omega) (by omega)
  rw [At.sa_iff.2 ⟨rfl, fun _ => rfl⟩] at this
  exact this

theorem long (A : Option Addr) (cp : Nat) (l : List Kn) (cu cs ck ch cn : Int) (ct : ByteArray) (j1 j2 : Int) (n : Int) (w : World) (hN : Nd w) (hl : (60 : Int) < (l.length : Int)) : Calls Tryd.prog 3 #[.slice A l.length cp, (cv cu cs ck ch cn ct), (.agg #[.int .i64 j1, .int .i64 j2]), .int .i64 n] w (UpPost w) := by
  have B0 : Below w.heap.size w ((w.alloc (.cells #[.int .i64 cu, .int .i64 cs, .int .i64 ck, .int .i64 ch, .int .i64 cn, .string ct] 24)).alloc (.cells #[.int .i64 j1, .int .i64 j2] 26)) := (((Below.refl _ _).alloc (Nat.le_refl _) _).alloc (by first | (simp; done) | (simp; omega)) _)
  have Z0 : ((w.alloc (.cells #[.int .i64 cu, .int .i64 cs, .int .i64 ck, .int .i64 ch, .int .i64 cn, .string ct] 24)).alloc (.cells #[.int .i64 j1, .int .i64 j2] 26)).heap.size = w.heap.size + 1 + 1 := by simp
  have Dc0 : Cb ((w.alloc (.cells #[.int .i64 cu, .int .i64 cs, .int .i64 ck, .int .i64 ch, .int .i64 cn, .string ct] 24)).alloc (.cells #[.int .i64 j1, .int .i64 j2] 26)) (w.heap.size) cu cs ck ch cn ct := by
    have h1 := cb_new w cu cs ck ch cn ct
    exact (h1.on ((Below.refl _ _).alloc (Nat.le_refl _) _) (by first | (simp; done) | (simp; omega)))
  have Dj0 : At.Ib ((w.alloc (.cells #[.int .i64 cu, .int .i64 cs, .int .i64 ck, .int .i64 ch, .int .i64 cn, .string ct] 24)).alloc (.cells #[.int .i64 j1, .int .i64 j2] 26)) (w.heap.size + 1) j1 j2 := by
    have h1 := At.ib_new (w.alloc (.cells #[.int .i64 cu, .int .i64 cs, .int .i64 ck, .int .i64 ch, .int .i64 cn, .string ct] 24)) j1 j2
    rw [show (w.alloc (.cells #[.int .i64 cu, .int .i64 cs, .int .i64 ck, .int .i64 ch, .int .i64 cn, .string ct] 24)).heap.size = w.heap.size + 1 by simp] at h1
    exact h1
  have N0 := hN.on B0
  go_enter Tryd.func3, Tryd.ntmps3
  go_wp2_with fail
  generalize ((w.alloc (.cells #[.int .i64 cu, .int .i64 cs, .int .i64 ck, .int .i64 ch, .int .i64 cn, .string ct] 24)).alloc (.cells #[.int .i64 j1, .int .i64 j2] 26)) = W0 at *
  refine (awake_any W0 N0).mono ?_
  rintro e W1 ⟨rfl, B1⟩
  have z1 := B1.size
  have N1 := N0.on B1
  have Dc1 := Dc0.on B1 (by omega)
  have Dj1 := Dj0.on B1 (by omega)
  have BE := B0.trans (B1.mono (by omega))
  clear Dc0 Dj0
  clear B1 B0 N0
  go_wp2
  go_ret
  exact ⟨rfl, BE⟩

set_option maxHeartbeats 4000000 in
theorem rest (N : Nat) (A : Option Addr) (cp : Nat) (l : List Kn) (cu cs ck ch cn : Int) (ct : ByteArray) (j1 j2 : Int) (n : Int) (w : World) (hN : Nd w) (hl : ¬ (60 : Int) < (l.length : Int)) (hn : am n = (N : Int)) (h7 : N ≤ 7) (hs : Ns w w.heap.size A l) (hlow : ∀ k ∈ l, -9223372036854775808 ≤ k.q) : Calls Tryd.prog 3 #[.slice A l.length cp, (cv cu cs ck ch cn ct), (.agg #[.int .i64 j1, .int .i64 j2]), .int .i64 n] w (UpPost w) := by
  have B0 : Below w.heap.size w ((w.alloc (.cells #[.int .i64 cu, .int .i64 cs, .int .i64 ck, .int .i64 ch, .int .i64 cn, .string ct] 24)).alloc (.cells #[.int .i64 j1, .int .i64 j2] 26)) := (((Below.refl _ _).alloc (Nat.le_refl _) _).alloc (by first | (simp; done) | (simp; omega)) _)
  have Z0 : ((w.alloc (.cells #[.int .i64 cu, .int .i64 cs, .int .i64 ck, .int .i64 ch, .int .i64 cn, .string ct] 24)).alloc (.cells #[.int .i64 j1, .int .i64 j2] 26)).heap.size = w.heap.size + 1 + 1 := by simp
  have Dc0 : Cb ((w.alloc (.cells #[.int .i64 cu, .int .i64 cs, .int .i64 ck, .int .i64 ch, .int .i64 cn, .string ct] 24)).alloc (.cells #[.int .i64 j1, .int .i64 j2] 26)) (w.heap.size) cu cs ck ch cn ct := by
    have h1 := cb_new w cu cs ck ch cn ct
    exact (h1.on ((Below.refl _ _).alloc (Nat.le_refl _) _) (by first | (simp; done) | (simp; omega)))
  have Dj0 : At.Ib ((w.alloc (.cells #[.int .i64 cu, .int .i64 cs, .int .i64 ck, .int .i64 ch, .int .i64 cn, .string ct] 24)).alloc (.cells #[.int .i64 j1, .int .i64 j2] 26)) (w.heap.size + 1) j1 j2 := by
    have h1 := At.ib_new (w.alloc (.cells #[.int .i64 cu, .int .i64 cs, .int .i64 ck, .int .i64 ch, .int .i64 cn, .string ct] 24)) j1 j2
    rw [show (w.alloc (.cells #[.int .i64 cu, .int .i64 cs, .int .i64 ck, .int .i64 ch, .int .i64 cn, .string ct] 24)).heap.size = w.heap.size + 1 by simp] at h1
    exact h1
  have N0 := hN.on B0
  go_enter Tryd.func3, Tryd.ntmps3
  go_wp2_with fail
  generalize ((w.alloc (.cells #[.int .i64 cu, .int .i64 cs, .int .i64 ck, .int .i64 ch, .int .i64 cn, .string ct] 24)).alloc (.cells #[.int .i64 j1, .int .i64 j2] 26)) = W0 at *
  refine (awake_any W0 N0).mono ?_
  rintro e W1 ⟨rfl, B1⟩
  have z1 := B1.size
  have N1 := N0.on B1
  have Dc1 := Dc0.on B1 (by omega)
  have Dj1 := Dj0.on B1 (by omega)
  have BE := B0.trans (B1.mono (by omega))
  clear Dc0 Dj0
  clear B1 B0 N0
  have HS := Lib.hid (hs.up BE)
  have HLW := Lib.hid hlow
  have hl' : l.length ≤ 60 := by omega
  clear hs hlow
  go_wp2_with fail
  go_loopw [10] (fun tt wr => ∃ p : Nat, p ≤ l.length ∧ tt = .int .i64 (p : Int) ∧ wr = W1 ∧ ∀ k ∈ l.take p, k.q ≤ 1099511627776) (fun tt _ => 61 - (intOf tt).toNat)
  case atStart => exact ⟨0, Nat.zero_le _, rfl, rfl, by simp⟩
  case round =>
    obtain ⟨p, hp, rfl, rfl, hall⟩ := hrel
    have HALL := Lib.hid hall
    clear hall
    by_cases hlp : p < l.length
    · have hlpi : (p : Int) < (l.length : Int) := by omega
      have hp0 : (0 : Int) ≤ (p : Int) := by omega
      rcases HS.out with rfl | ⟨b, off, rfl, hb, hc⟩
      · simp at hlp
      obtain ⟨_, _, _, _, _, _, _, _, e8⟩ := hc p l[p] (List.getElem?_eq_getElem hlp)
      have HNX : Hid (l[p].q ≤ 1099511627776 → ∀ k ∈ l.take (p + 1), k.q ≤ 1099511627776) := fun h k hk => by
        rw [List.take_succ_eq_append_getElem hlp] at hk
        rcases List.mem_append.1 hk with hk | hk
        · exact HALL.out k hk
        · simp at hk; subst hk; exact h
      generalize l[p].q = q at *
      clear hc
      by_cases hq : 1099511627776 < q
      · go_wp2
        go_ret
        exact ⟨rfl, BE⟩
      · go_wp2
        go_roundw
        case rel => exact ⟨p + 1, by omega, by go_num, (by first | rfl | trivial), HNX.out (by omega)⟩
        case measure => simp [intOf]; omega
    · obtain rfl : p = l.length := by omega
      rw [List.take_length] at HALL
      have H10 : ∀ W, Nd W → Ns W W.heap.size A l → Hid (Calls Tryd.prog 10 #[.slice A l.length cp, (cv cu cs ck ch cn ct), (.agg #[.int .i64 j1, .int .i64 j2]), .int .i64 n] W (AtP W (Pq (N : Int) l ⟨cu, cs, ck, ch, cn, ct⟩ (j1, j2)) N)) := fun W h1 h2 => by have := of_prog N n cu cs ck ch cn j1 j2 ct A cp l W h1 hn h7 (by omega) h2 HLW.out; rw [hn] at this; exact this
      have H11 : ∀ W, Ns W W.heap.size A l → Hid (Calls Tryd.prog 11 #[.slice A l.length cp, (cv cu cs ck ch cn ct), (.agg #[.int .i64 j1, .int .i64 j2]), .int .i64 n] W (AtP W (Pq (N : Int) l ⟨cu, cs, ck, ch, cn, ct⟩ (j1, j2)) N)) := fun W h2 => by have := of_ref N n cu cs ck ch cn j1 j2 ct A cp l W hn h7 (by omega) h2 HALL.out; rw [hn] at this; exact this
      obtain ⟨gc0, gc1, gc2, gc3, gc4, gc5⟩ := id Dc1
      obtain ⟨gj0, gj1⟩ := id Dj1
      go_wp2_with fail
      clear gc0 gc1 gc2 gc3 gc4 gc5
      clear gj0 gj1
      refine (H10 _ N1 HS.out).out.mono ?_
      rintro e W2 ⟨sa, da, ga, rfl, Ra, hga, B2, Ia⟩
      have z2 := B2.size
      have BA : Below W2.heap.size W2 (W2.alloc (.cells #[.int .i64 sa, .slice (some ⟨ga, 0, none⟩) N N] 32)) := (Below.refl _ _).alloc (Nat.le_refl _) _
      have PA := At.ax_new W2 sa (some ⟨ga, 0, none⟩) N N
      have S3 := Lib.hid ((HS.out.up B2).up BA)
      have Ra3 := Ra.old (.cells #[.int .i64 sa, .slice (some ⟨ga, 0, none⟩) N N] 32)
      have hgl := Ra.lt
      have Z3 : (W2.alloc (.cells #[.int .i64 sa, .slice (some ⟨ga, 0, none⟩) N N] 32)).heap.size = W2.heap.size + 1 := by simp
      have BE3 := BE.trans ((B2.trans (BA.mono z2)).mono (by omega))
      have Dc2 := Dc1.on B2 (by omega)
      have Dj2 := Dj1.on B2 (by omega)
      have y2a : w.heap.size < W2.heap.size := by omega
      have y2b : w.heap.size + 1 < W2.heap.size := by omega
      obtain ⟨gc0, gc1, gc2, gc3, gc4, gc5⟩ := id Dc2
      obtain ⟨gj0, gj1⟩ := id Dj2
      go_wp2_with fail
      clear gc0 gc1 gc2 gc3 gc4 gc5
      clear gj0 gj1
      clear Ra B2 BA H10 HS Dc2 Dj2
      generalize (W2.alloc (.cells #[.int .i64 sa, .slice (some ⟨ga, 0, none⟩) N N] 32)) = W3 at *
      generalize W2.heap.size = pa at *
      have zpa : pa < W3.heap.size := by omega
      clear Z3
      refine (H11 _ S3.out).out.mono ?_
      rintro e W4 ⟨sb, db, gb, rfl, Rb, hgb, B4, Ib⟩
      obtain ⟨rfl, rfl⟩ := Ia.uniq Ib (fun _ _ => Iff.rfl)
      have z4 := B4.size
      have BB : Below W4.heap.size W4 (W4.alloc (.cells #[.int .i64 sa, .slice (some ⟨gb, 0, none⟩) N N] 32)) := (Below.refl _ _).alloc (Nat.le_refl _) _
      have PB := At.ax_new W4 sa (some ⟨gb, 0, none⟩) N N
      have PA5 := (PA.on B4 zpa).on BB (by omega)
      have Ra5 : At.Rx (W4.alloc (.cells #[.int .i64 sa, .slice (some ⟨gb, 0, none⟩) N N] 32)) ga da := (BB.block ga (by omega)).trans ((B4.block ga (by omega)).trans Ra3)
      have Rb5 := Rb.old (.cells #[.int .i64 sa, .slice (some ⟨gb, 0, none⟩) N N] 32)
      have BE5 := BE3.trans ((B4.trans (BB.mono z4)).mono (by omega))
      have Z5 : (W4.alloc (.cells #[.int .i64 sa, .slice (some ⟨gb, 0, none⟩) N N] 32)).heap.size = W4.heap.size + 1 := by simp
      have HSM := rsame_yes N h7 _ ga gb sa da Ia.len Ra5 Rb5
      have HSM' := Lib.hid HSM
      obtain ⟨a0, a1⟩ := (PA.on B4 zpa).rb
      have ypa : pa < W4.heap.size := by omega
      clear Ia Ib Rb BB H11 S3 HSM Ra3 B4
      go_wp2_with fail
      clear a0 a1 PA
      generalize (W4.alloc (.cells #[.int .i64 sa, .slice (some ⟨gb, 0, none⟩) N N] 32)) = W5 at *
      generalize W4.heap.size = pb at *
      clear Z5
      refine HSM'.out.mono ?_
      rintro e W6 ⟨rfl, B6⟩
      obtain ⟨a0, a1⟩ := (PA5.on B6 (by have := PA5.lt; omega)).rb
      obtain ⟨b0, b1⟩ := (PB.on B6 (by have := PB.lt; omega)).rb
      have BE6 := BE5.trans (B6.mono BE5.size)
      go_wp2
      go_ret
      exact ⟨rfl, BE6⟩

theorem walk (A : Option Addr) (cp : Nat) (l : List Kn) (c : Cd) (j : Int × Int) (n : Int) (w : World) (hN : Nd w) (hs : Ns w w.heap.size A l) (hlow : ∀ k ∈ l, -9223372036854775808 ≤ k.q) (hw : (Lit.int .i64 n).wf = true) : Calls Tryd.prog 3 #[.slice A l.length cp, cv c.u c.s c.k c.h c.n c.t, iv j, .int .i64 n] w (UpPost w) := by
  obtain ⟨N, hn, _, h7⟩ := am_nat n
  by_cases hl : (60 : Int) < (l.length : Int)
  · exact long A cp l _ _ _ _ _ _ _ _ n w hN hl
  · exact rest N A cp l _ _ _ _ _ _ _ _ n w hN hl hn h7 hs hlow

set_option maxRecDepth 100000 in
theorem lifted (os : Os) (started : os.Started) (H : Type) (enc : TypeId × Value → H) :
    ReturnsInHanded {} Tryd.checked os 3 .any (fun w args => (Rows.indexOfSpec.pre enc Tryd.prog Tryd.f3 [] false w args ∧ laidMetH Tryd.prog laid4 w) ∧ sizedMet enc Tryd.prog Tryd.f3 (OpenSpec.ofChange Rows.indexOfSpec) false w args)
      (Rows.indexOfSpec.post enc Tryd.prog Tryd.f3 false true false false) := by
  refine returnsInHanded_of_change_and (C := Tryd.checked) (X := fun w _ => laidMetH Tryd.prog laid4 w) (fun _ _ _ hh h => h.of_heap hh) own started (by kernel_rfl) Tryd.func3
    (ChangeSpec.witness_shaped (enc := enc) (C := Tryd.checked) (os := os) (X := fun w _ => laidMetH Tryd.prog laid4 w) false (World.doorLaid Tryd.prog 18 os) #[.slice none 0 0, .agg #[.int .i64 0, .int .i64 0, .int .i64 0, .int .i64 0, .int .i64 0, .string ⟨#[]⟩], .agg #[.int .i64 0, .int .i64 0], .int .i64 0] 8 rfl (World.shaped_of_RefB (by kernel_rfl) (by kernel_rfl)) (by kernel_rfl) (by kernel_rfl) (by kernel_rfl) (door_met os _)) ?_
  intro W base args ds gs before hval0 hW _ _ hL _
  have hN := nd_of_laid hL
  have hval : ∀ (j : Nat) t v, Tryd.f3.params[j]? = some t → args[j]? = some v → Value.okWide Tryd.prog W .any base t v := hval0
  have hW' := hW
  obtain ⟨p, q, hA0, hV, rfl, hfz, hnd⟩ := hW
  have hA : DataW.TrodAll enc Tryd.prog W 0 (fun _ => true) true Tryd.f3.params.toList args.toList ds p := hA0
  rw [Tryd.params3] at hA hval
  obtain ⟨v0, vs0, d0, ds0, p0, q0, hargs, rfl, rfl, h0, r0⟩ := trodAll_cons hA
  obtain ⟨v1, vs1, d1, ds1, p1, q1, rfl, rfl, rfl, h1, r1⟩ := trodAll_cons r0
  obtain ⟨v2, vs2, d2, ds2, p2, q2, rfl, rfl, rfl, h2, r2⟩ := trodAll_cons r1
  obtain ⟨v3, vs3, d3, ds3, p3, q3, rfl, rfl, rfl, h3, r3⟩ := trodAll_cons r2
  obtain ⟨rfl, rfl, rfl⟩ := trodAll_nil r3
  obtain rfl : args = #[v0, v1, v2, v3] := by cases args; simp_all
  obtain ⟨rfl, rfl⟩ := trodVars_none hV
  have k0' := h0
  have lt0 : ∀ x ∈ p0, x.block < W.heap.size := by obtain ⟨m, hm⟩ := k0'; exact DataW.trod_lt m _ _ _ hm
  obtain ⟨A0, c0, l0, rfl, s0', m0, y0⟩ := open_kns (hval 0 22 v0 rfl rfl) h0
  have k1' := h1
  have lt1 : ∀ x ∈ p1, x.block < W.heap.size := by obtain ⟨m, hm⟩ := k1'; exact DataW.trod_lt m _ _ _ hm
  obtain ⟨x1, rfl⟩ := open_cmd (hval 1 24 v1 rfl rfl) h1
  have k2' := h2
  have lt2 : ∀ x ∈ p2, x.block < W.heap.size := by obtain ⟨m, hm⟩ := k2'; exact DataW.trod_lt m _ _ _ hm
  obtain ⟨x2, rfl⟩ := open_inst (hval 2 26 v2 rfl rfl) h2
  obtain ⟨a3, rfl, rfl, rfl, w3⟩ := open_int Tryd.underlying3 (hval 3 3 v3 rfl rfl) h3
  clear hA0 hval0
  refine (walk A0 c0 l0 x1 x2 a3 W hN s0' y0   w3).mono fun e W' ⟨he, bel⟩ => ?_
  subst he
  exact ⟨_, rfl, _, _, _, [], _, [], hW', trodAll_mk1 (shut_bool Tryd.underlying4 _), (trodAll_cons_mk (Below.trod laidOut (by kernel_rfl) (of_decide_eq_true (by kernel_rfl)) k0' bel lt0) (trodAll_cons_mk (Below.trod laidOut (by kernel_rfl) (of_decide_eq_true (by kernel_rfl)) k1' bel lt1) (trodAll_cons_mk (Below.trod laidOut (by kernel_rfl) (of_decide_eq_true (by kernel_rfl)) k2' bel lt2) (trodAll_cons_mk (shut_int Tryd.underlying3 w3) trodAll_mk0)))), rfl, bel.frame _, fun h => by cases h⟩

theorem over : Rows.IndexOfSaid :=
  OpenClaim.holds_of_wide 3 Tryd.f3 rfl rfl rfl rfl rfl rfl rfl ⟨rfl, rfl, rfl, rfl, rfl⟩ rfl rfl rfl rfl rfl (by kernel_rfl) Tryd.func3 (by kernel_rfl)
    (of_decide_eq_true (by kernel_rfl)) (by unfold Func.isWrapper; first | (rw [if_pos (by decide +kernel)]; kernel_rfl) | (rw [if_neg (by decide +kernel)]; exact ⟨rfl, rfl⟩))
    (fun os started H enc _ => lifted os started H enc)

theorem proved : Rows.IndexOfCardSaid :=
  Claim7.holds_tied_plain_at .later [] [.data] true (true, "ff0bb4375bea55efa16266bd5e425099be6e5092c0e69cdcc6c311bd18fe096f") false
    over (fun _ h => by cases h) (by kernel_rfl) (fun _ h => by cases h) indexOf_row_tie rfl ⟨rfl, rfl⟩ (by kernel_rfl) rfl
    (fun f fn hf hfn => by
      obtain rfl : f = 3 := Option.some.inj ((show Tryd.prog.funcNamed "colloquy/colloquylaw08.IndexOf" = some 3 by kernel_rfl).symm.trans hf) |>.symm
      obtain rfl : fn = Tryd.f3 := (Option.some.inj (Tryd.func3.symm.trans hfn)).symm
      exact ⟨by kernel_rfl, fun j t ht => by
        rw [Tryd.params3] at ht
        have hm : t ∈ [22, 24, 26, 3] := by simpa using Array.mem_of_getElem? ht
        have hall : ([22, 24, 26, 3].all fun u => !Tryd.prog.wantsStandIn u) = true := by kernel_rfl
        exact (show Tryd.prog.wantsStandIn t = false by simpa using List.all_eq_true.1 hall t hm)⟩)
    (by kernel_rfl)
#print axioms proved
end Go.Proofs.YtmeklhlojogdnaaDoor.indexOf
