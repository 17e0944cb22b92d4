/-
  THE LAW TextShows: the line that asks for anything, or that it can't be asked for, is what the document says; so are the words. Conditions: what the row lists (the tables as their initialisers lay them).
-/
import Derived.Test.YtpeieagfndggbaaDoorRs
import Derived.Test.YtpeieagfndggbaaDoorCards
import Derived.Test.YtpeieagfndggbaaDoorTie
import Derived.SevenTiedAt
import Derived.ChangeMaps5
namespace Go.Proofs.YtpeieagfndggbaaDoor.textShows
open Go.ChangeShapes Go.WideShapes Go.ChangeAt Go.RowKit Go.Joins Go.ChangeMaps Tx
set_option linter.unusedVariables false

attribute [local go_sem ↓ high] eq24 guard24
theorem wS_zero {k : Nat} : wS k = wds.getD k ByteArray.empty := rfl
theorem row_all (W w' : World) (hrow : w'.heap[W.heap.size]? = some (.cells #[.string W0, .string W1, .string W2, .string W3, .string W4, .string W5, .string W6, .string W7] 9 (0, 0))) (k : Nat) (hk : k < 8) : w'.cell? ⟨W.heap.size, k, none⟩ = some (.string (wS k)) := by
  rw [cell_of_row w' _ k _ 9 _ hrow]
  match k, hk with
  | 0, _ => rfl
  | 1, _ => rfl
  | 2, _ => rfl
  | 3, _ => rfl
  | 4, _ => rfl
  | 5, _ => rfl
  | 6, _ => rfl
  | 7, _ => rfl
theorem words_all (W : World) : Calls Tryd.prog 16 #[] W fun e w' => e = .returned (.slice (some ⟨W.heap.size, 0, none⟩) 8 8) ∧ (∀ k, k < 8 → w'.cell? ⟨W.heap.size, k, none⟩ = some (.string (wS k))) ∧ Below W.heap.size W w' ∧ W.heap.size < w'.heap.size := by
  refine (words_any W).mono ?_
  rintro e w' ⟨rfl, hw⟩
  exact ⟨rfl, row_all W w' (by rw [hw]; exact nalloc_new W _), by rw [hw]; exact (Below.refl _ _).alloc (Nat.le_refl _) _, by rw [hw]; simp⟩
theorem rwords_all (W : World) : Calls Tryd.prog 17 #[] W fun e w' => e = .returned (.slice (some ⟨W.heap.size, 0, none⟩) 8 8) ∧ (∀ k, k < 8 → w'.cell? ⟨W.heap.size, k, none⟩ = some (.string (wS k))) ∧ Below W.heap.size W w' := by
  refine (rwords_any W).mono ?_
  rintro e w' ⟨rfl, hw⟩
  exact ⟨rfl, row_all W w' (by rw [hw]; exact nalloc_new W _), by rw [hw]; exact (Below.refl _ _).alloc (Nat.le_refl _) _⟩
theorem long (u s k h n : Int) (t : ByteArray) (w : World) (hN : Nd w) (hl : 500 < (t.size : Int)) : Calls Tryd.prog 4 #[cv u s k h n t] w (UpPost w) := by
  go_enter Tryd.func4, Tryd.ntmps4
  have b0 : Below w.heap.size w (w.alloc (.cells #[.int .i64 u, .int .i64 s, .int .i64 k, .int .i64 h, .int .i64 n, .string t] 24)) := (Below.refl _ _).alloc (Nat.le_refl _) _
  have hc0 := cx_new' w u s k h n t
  go_wp2_with fail
  have HAw := Lib.hid (awake_any _ (hN.on b0))
  generalize w.alloc (.cells #[.int .i64 u, .int .i64 s, .int .i64 k, .int .i64 h, .int .i64 n, .string t] 24) = w0 at *
  refine HAw.out.mono ?_
  rintro e w1 ⟨rfl, c1⟩
  have hc1 := hc0.on c1 hc0.lt
  have b1 := b0.trans (c1.mono b0.size)
  clear hc0 b0 c1 HAw
  obtain ⟨d0, d1, d2, d3, d4, d5⟩ := hc1.cl
  go_wp2
  go_ret
  exact ⟨rfl, b1⟩
set_option maxHeartbeats 4000000 in
set_option maxRecDepth 100000 in
theorem walk (u s k h n : Int) (t : ByteArray) (w : World) (hN : Nd w) : Calls Tryd.prog 4 #[cv u s k h n t] w (UpPost w) := by
  by_cases hl : 500 < (t.size : Int)
  · exact long u s k h n t w hN hl
  have HS := fun W hn => Lib.hid (show_any u s k h n t W hn (by omega))
  have HR := fun W => Lib.hid (rshow_any u s k h n t W (by omega))
  generalize shown k h n (nt t) = r at *
  obtain ⟨L, X⟩ := r
  have H16 := fun W => Lib.hid (words_all W)
  have H17 := fun W => Lib.hid (rwords_all W)
  go_enter Tryd.func4, Tryd.ntmps4
  have b0 : Below w.heap.size w (w.alloc (.cells #[.int .i64 u, .int .i64 s, .int .i64 k, .int .i64 h, .int .i64 n, .string t] 24)) := (Below.refl _ _).alloc (Nat.le_refl _) _
  have hc0 := cx_new' w u s k h n t
  go_wp2_with fail
  have HAw := Lib.hid (awake_any _ (hN.on b0))
  generalize w.alloc (.cells #[.int .i64 u, .int .i64 s, .int .i64 k, .int .i64 h, .int .i64 n, .string t] 24) = w0 at *
  refine HAw.out.mono ?_
  rintro e w1 ⟨rfl, c1⟩
  have hc1 := hc0.on c1 hc0.lt
  have b1 := b0.trans (c1.mono b0.size)
  clear hc0 b0 c1 HAw
  obtain ⟨d0, d1, d2, d3, d4, d5⟩ := hc1.cl
  go_wp2_with fail
  refine (HS _ (hN.on b1)).out.mono ?_
  rintro e w2 ⟨⟨l, hl1, rfl⟩, c2⟩
  have b2 := b1.trans (c2.mono b1.size)
  have hc2 := hc1.on c2 hc1.lt
  clear c2 b1 hc1 HS d0 d1 d2 d3 d4 d5
  obtain ⟨d0, d1, d2, d3, d4, d5⟩ := hc2.cl
  go_wp2_with fail
  refine (HR _).out.mono ?_
  rintro e w3 ⟨⟨l', hl2, rfl⟩, c3⟩
  obtain rfl : l' = l := nt_inj (hl2.trans hl1.symm)
  have b3 := b2.trans (c3.mono b2.size)
  clear c3 b2 hc2 HR hl1 hl2 d0 d1 d2 d3 d4 d5 hl hN
  go_wp2_with fail
  refine (H16 _).out.mono ?_
  rintro e w4 ⟨rfl, hA, c4, hlt⟩
  have b4 := b3.trans (c4.mono b3.size)
  clear c4 b3 H16
  have HA := Lib.hid hA
  clear hA
  go_wp2_with fail
  refine (H17 _).out.mono ?_
  rintro e w5 ⟨rfl, hB, c5⟩
  have b5 := b4.trans (c5.mono b4.size)
  have HA5 : Hid (∀ k, k < 8 → w5.cell? ⟨w3.heap.size, k, none⟩ = some (.string (wS k))) := fun k hk => (c5.cell (p := ⟨w3.heap.size, k, none⟩) hlt).trans (HA.out k hk)
  have HB5 := Lib.hid hB
  have hb5 := Lib.hid b5
  clear c5 b4 H17 HA hB b5
  generalize w3.heap.size = A at *
  generalize w4.heap.size = B at *
  clear hlt
  go_wp2
  go_loopw [10] (fun x w' => ∃ k : Nat, x = .int .i64 (k : Int) ∧ k ≤ 8 ∧ Hid (∀ k, k < 8 → w'.cell? ⟨A, k, none⟩ = some (.string (wS k))) ∧ Hid (∀ k, k < 8 → w'.cell? ⟨B, k, none⟩ = some (.string (wS k))) ∧ Hid (Below w.heap.size w w')) (fun x _ => 8 - (intOf x).toNat)
  case atStart => exact ⟨0, rfl, by omega, HA5.out, HB5.out, hb5.out⟩
  case round =>
    clear HA5 HB5 hb5
    obtain ⟨i, rfl, hi, hA, hB, hb⟩ := hrel
    by_cases hk : i < 8
    · have m1 : (0 : Int) ≤ (i : Int) := by omega
      have m2 : (i : Int) < 8 := by omega
      have r1 := hA.out i hk
      have r2 := hB.out i hk
      have hA2 := hA
      have hB2 := hB
      generalize wS i = V at *
      clear hA hB
      go_wp2
      go_quiet (fail)
      go_wp2
      go_roundw
      case rel => exact ⟨i + 1, by go_num, by omega, hA2.out, hB2.out, ⟨hb.out.os, hb.out.tape, hb.out.output, hb.out.size, hb.out.block⟩⟩
      case measure => simp [intOf]; omega
    · obtain rfl : i = 8 := by omega
      clear hA hB
      go_wp2
      go_ret
      exact ⟨rfl, hb.out⟩

set_option maxRecDepth 100000 in
theorem lifted (os : Os) (started : os.Started) (H : Type) (enc : TypeId × Value → H) :
    ReturnsInHanded {} Tryd.checked os 4 .any (fun w args => (Rows.textShowsSpec.pre enc Tryd.prog Tryd.f4 [] false w args ∧ laidMetH Tryd.prog laid14 w) ∧ sizedMet enc Tryd.prog Tryd.f4 (OpenSpec.ofChange Rows.textShowsSpec) false w args)
      (Rows.textShowsSpec.post enc Tryd.prog Tryd.f4 false true false false) := by
  refine returnsInHanded_of_change_and (C := Tryd.checked) (X := fun w _ => laidMetH Tryd.prog laid14 w) (fun _ _ _ hh h => h.of_heap hh) own started (by kernel_rfl) Tryd.func4
    (ChangeSpec.witness_shaped (enc := enc) (C := Tryd.checked) (os := os) (X := fun w _ => laidMetH Tryd.prog laid14 w) false (World.doorLaid Tryd.prog 71 os) #[.agg #[.int .i64 0, .int .i64 0, .int .i64 0, .int .i64 0, .int .i64 0, .string ⟨#[]⟩]] 8 rfl (World.shaped_of_RefB (by kernel_rfl) (by kernel_rfl)) (by kernel_rfl) (by kernel_rfl) (by kernel_rfl) (door_met os _)) ?_
  intro W base args ds gs before hval0 hW _ _ hL _
  have hN := nd_of_laid hL
  have hval : ∀ (j : Nat) t v, Tryd.f4.params[j]? = some t → args[j]? = some v → Value.okWide Tryd.prog W .any base t v := hval0
  have hW' := hW
  obtain ⟨p, q, hA0, hV, rfl, hfz, hnd⟩ := hW
  have hA : DataW.TrodAll enc Tryd.prog W 0 (fun _ => true) true Tryd.f4.params.toList args.toList ds p := hA0
  rw [Tryd.params4] at hA hval
  obtain ⟨v0, vs0, d0, ds0, p0, q0, hargs, rfl, rfl, h0, r0⟩ := trodAll_cons hA
  obtain ⟨rfl, rfl, rfl⟩ := trodAll_nil r0
  obtain rfl : args = #[v0] := by cases args; simp_all
  obtain ⟨rfl, rfl⟩ := trodVars_none hV
  have k0' := h0
  have lt0 : ∀ x ∈ p0, x.block < W.heap.size := by obtain ⟨m, hm⟩ := k0'; exact DataW.trod_lt m _ _ _ hm
  obtain ⟨u0, s0, k0, h0c, n0, t0, rfl⟩ := open_cmd (hval 0 24 v0 rfl rfl) h0
  clear hA0 hval0
  refine (walk u0 s0 k0 h0c n0 t0 W hN ).mono fun e W' ⟨he, bel⟩ => ?_
  subst he
  exact ⟨_, rfl, _, _, _, [], _, [], hW', trodAll_mk1 (shut_bool Tryd.underlying4 _), (trodAll_cons_mk (Below.trod laidOut (by kernel_rfl) (of_decide_eq_true (by kernel_rfl)) k0' bel lt0) trodAll_mk0), rfl, bel.frame _, fun h => by cases h⟩

theorem over : Rows.TextShowsSaid :=
  OpenClaim.holds_of_wide 4 Tryd.f4 rfl rfl rfl rfl rfl rfl rfl ⟨rfl, rfl, rfl, rfl, rfl⟩ rfl rfl rfl rfl rfl (by kernel_rfl) Tryd.func4 (by kernel_rfl)
    (of_decide_eq_true (by kernel_rfl)) (by unfold Func.isWrapper; first | (rw [if_pos (by decide +kernel)]; kernel_rfl) | (rw [if_neg (by decide +kernel)]; exact ⟨rfl, rfl⟩))
    (fun os started H enc _ => lifted os started H enc)

theorem proved : Rows.TextShowsCardSaid :=
  Claim7.holds_tied_plain_at .later [] [.data, .data, .data, .sentinel, .sentinel, .data] true (true, "335a6963d3f088ffb995e293bbf0da4bbbb660197f74018b2e2394ea562ca93f") true
    over (fun _ h => by cases h) (by kernel_rfl) (fun _ h => by cases h) textShows_row_tie rfl ⟨rfl, rfl⟩ (by kernel_rfl) rfl
    (fun f fn hf hfn => by
      obtain rfl : f = 4 := Option.some.inj ((show Tryd.prog.funcNamed "colloquy/colloquylaw14.TextShows" = some 4 by kernel_rfl).symm.trans hf) |>.symm
      obtain rfl : fn = Tryd.f4 := (Option.some.inj (Tryd.func4.symm.trans hfn)).symm
      exact ⟨by kernel_rfl, fun j t ht => by
        rw [Tryd.params4] at ht
        have hm : t ∈ [24] := by simpa using Array.mem_of_getElem? ht
        have hall : ([24].all fun u => !Tryd.prog.wantsStandIn u) = true := by kernel_rfl
        exact (show Tryd.prog.wantsStandIn t = false by simpa using List.all_eq_true.1 hall t hm)⟩)
    (by kernel_rfl)
#print axioms proved
end Go.Proofs.YtpeieagfndggbaaDoor.textShows
