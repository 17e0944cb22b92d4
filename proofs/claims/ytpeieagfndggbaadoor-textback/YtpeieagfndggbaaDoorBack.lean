/-
  THE LAW TextBack: what is shown is parsed as it was, without what it does not need. Conditions: what the row lists (the tables as their initialisers lay them).
-/
import Derived.Test.YtpeieagfndggbaaDoorRn
import Derived.Test.YtpeieagfndggbaaDoorCards
import Derived.Test.YtpeieagfndggbaaDoorTie
import Derived.SevenTiedAt
import Derived.ChangeMaps5
namespace Go.Proofs.YtpeieagfndggbaaDoor.textBack
open Go.ChangeShapes Go.WideShapes Go.ChangeAt Go.RowKit Go.Joins Go.ChangeMaps Tx
set_option linter.unusedVariables false

attribute [local go_sem ↓ high] eq24 guard24
theorem long (u s k h n : Int) (t : ByteArray) (w : World) (hN : Nd w) (hl : 500 < (t.size : Int)) : Calls Tryd.prog 5 #[cv u s k h n t] w (UpPost w) := by
  go_enter Tryd.func5, Tryd.ntmps5
  have b0 : Below w.heap.size w (w.alloc (.cells #[.int .i64 u, .int .i64 s, .int .i64 k, .int .i64 h, .int .i64 n, .string t] 24)) := (Below.refl _ _).alloc (Nat.le_refl _) _
  have hc0 := cx_new' w u s k h n t
  go_wp2_with fail
  have HAw := Lib.hid (awake_any _ (hN.on b0))
  generalize w.alloc (.cells #[.int .i64 u, .int .i64 s, .int .i64 k, .int .i64 h, .int .i64 n, .string t] 24) = w0 at *
  refine HAw.out.mono ?_
  rintro e w1 ⟨rfl, c1⟩
  have hc1 := hc0.on c1 hc0.lt
  have b1 := b0.trans (c1.mono b0.size)
  clear hc0 b0 c1 HAw
  obtain ⟨d0, d1, d2, d3, d4, d5⟩ := hc1.cl
  go_wp2
  go_ret
  exact ⟨rfl, b1⟩
theorem say_fit {k h n : Int} {t : List Nat} (hs : sayable k h n t = true) : Fit ⟨k.toNat, h.toNat, n.toNat, t⟩ := by
  obtain ⟨h1, h2, h3, h4⟩ := say_iff.1 hs
  refine ⟨?_, ?_, ?_, h4⟩
  · show 1 ≤ k.toNat ∧ k.toNat ≤ 7; omega
  · show 1 ≤ h.toNat ∧ h.toNat ≤ 2 ^ 20; omega
  · intro q; have := h3 q; show 1 ≤ n.toNat ∧ n.toNat ≤ 2 ^ 30; omega
set_option maxHeartbeats 4000000 in
set_option maxRecDepth 100000 in
theorem walk (u s k h n : Int) (t : ByteArray) (w : World) (hN : Nd w) : Calls Tryd.prog 5 #[cv u s k h n t] w (UpPost w) := by
  by_cases hl : 500 < (t.size : Int)
  · exact long u s k h n t w hN hl
  have HS := fun W hn => Lib.hid (show_any u s k h n t W hn (by omega))
  cases hs : sayable k h n (nt t)
  · have e : shown k h n (nt t) = ([], 1) := by unfold shown; rw [hs, if_neg (by decide)]
    rw [e] at HS
    clear hs e
    go_enter Tryd.func5, Tryd.ntmps5
    have b0 : Below w.heap.size w (w.alloc (.cells #[.int .i64 u, .int .i64 s, .int .i64 k, .int .i64 h, .int .i64 n, .string t] 24)) := (Below.refl _ _).alloc (Nat.le_refl _) _
    have hc0 := cx_new' w u s k h n t
    go_wp2_with fail
    have HAw := Lib.hid (awake_any _ (hN.on b0))
    generalize w.alloc (.cells #[.int .i64 u, .int .i64 s, .int .i64 k, .int .i64 h, .int .i64 n, .string t] 24) = w0 at *
    refine HAw.out.mono ?_
    rintro e w1 ⟨rfl, c1⟩
    have hc1 := hc0.on c1 hc0.lt
    have b1 := b0.trans (c1.mono b0.size)
    clear hc0 b0 c1 HAw
    obtain ⟨d0, d1, d2, d3, d4, d5⟩ := hc1.cl
    go_wp2_with fail
    refine (HS _ (hN.on b1)).out.mono ?_
    rintro e w2 ⟨⟨l, hl', rfl⟩, c2⟩
    obtain rfl : l = ⟨#[]⟩ := nt_inj hl'
    have b2 := b1.trans (c2.mono b1.size)
    clear hl'
    go_wp2
    go_ret
    exact ⟨rfl, b2⟩
  · have fit := say_fit hs
    have hpl := parse_line fit
    have e : shown k h n (nt t) = (line ⟨k.toNat, h.toNat, n.toNat, nt t⟩, 0) := by unfold shown; rw [if_pos hs]
    have hll : (line ⟨k.toNat, h.toNat, n.toNat, nt t⟩).length ≤ 1000000 := by
      have hd1 := dg_size (n := h) (by have := (say_iff.1 hs).2.1; omega) (by have := (say_iff.1 hs).2.1; omega)
      have hw : (wd k.toNat).length ≤ 10 := by refine kinds (P := fun k => (wd k).length ≤ 10) fit.k ?_ ?_ ?_ ?_ ?_ ?_ ?_ <;> decide
      have hn1 : (lnum ⟨k.toNat, h.toNat, n.toNat, nt t⟩).length ≤ 11 := by
        unfold lnum
        split
        · rename_i hk; have := (say_iff.1 hs).2.2.1 hk; have := dg_size this.1 this.2; show (32 :: dg n.toNat).length ≤ 11; rw [List.length_cons]; omega
        · simp
      have hn2 : (lend ⟨k.toNat, h.toNat, n.toNat, nt t⟩).length ≤ 501 := by
        unfold lend
        split
        · show (32 :: nt t).length ≤ 501; rw [List.length_cons, nt_len]; omega
        · simp
      unfold line
      rw [List.length_cons, List.length_append, List.length_cons, List.length_append, List.length_append]
      show (wd k.toNat).length + ((dg h.toNat).length + _ + 1) + 1 ≤ 1000000
      omega
    rw [e] at HS
    obtain ⟨hk1, hh1, hn1, -⟩ := say_iff.1 hs
    have HB := fun W => Lib.hid (bare_any u s h n k.toNat t W)
    have HP := fun W l hn (hl : nt l = line ⟨k.toNat, h.toNat, n.toNat, nt t⟩) => Lib.hid (parse_any l W (by rw [← nt_len, hl]; omega) hn)
    generalize line ⟨k.toNat, h.toNat, n.toNat, nt t⟩ = L at *
    have ek : ((k.toNat : Nat) : Int) = k := by omega
    have eh : ((h.toNat : Nat) : Int) = h := by omega
    rw [ek] at HB
    have en : numbered k.toNat = true → ((n.toNat : Nat) : Int) = n := fun q => by have := hn1 q; omega
    have ebk : (bare ⟨k.toNat, h.toNat, n.toNat, nt t⟩).k = k.toNat := rfl
    have ebh : (bare ⟨k.toNat, h.toNat, n.toNat, nt t⟩).ch = h.toNat := rfl
    have ebn : (((bare ⟨k.toNat, h.toNat, n.toNat, nt t⟩).n : Nat) : Int) = if numbered k.toNat then n else 0 := by
      show (((if numbered k.toNat = true then n.toNat else 0) : Nat) : Int) = _
      cases q : numbered k.toNat
      · rfl
      · exact en q
    have ebt : ∀ x : ByteArray, nt x = (bare ⟨k.toNat, h.toNat, n.toNat, nt t⟩).t → x = if worded k.toNat then t else ⟨#[]⟩ := by
      intro x hx
      have hx : nt x = if worded k.toNat = true then nt t else [] := hx
      cases q : worded k.toNat
      · rw [q] at hx; exact nt_inj hx
      · rw [q] at hx; exact nt_inj hx
    generalize (if numbered k.toNat then n else 0) = N2 at *
    generalize (if worded k.toNat then t else (⟨#[]⟩ : ByteArray)) = T2 at *
    generalize bare ⟨k.toNat, h.toNat, n.toNat, nt t⟩ = C at *
    clear hs fit e hll hn1 en
    go_enter Tryd.func5, Tryd.ntmps5
    have b0 : Below w.heap.size w (w.alloc (.cells #[.int .i64 u, .int .i64 s, .int .i64 k, .int .i64 h, .int .i64 n, .string t] 24)) := (Below.refl _ _).alloc (Nat.le_refl _) _
    have hc0 := cx_new' w u s k h n t
    go_wp2_with fail
    have HAw := Lib.hid (awake_any _ (hN.on b0))
    generalize w.alloc (.cells #[.int .i64 u, .int .i64 s, .int .i64 k, .int .i64 h, .int .i64 n, .string t] 24) = w0 at *
    refine HAw.out.mono ?_
    rintro e w1 ⟨rfl, c1⟩
    have hc1 := hc0.on c1 hc0.lt
    have b1 := b0.trans (c1.mono b0.size)
    clear hc0 b0 c1 HAw
    obtain ⟨d0, d1, d2, d3, d4, d5⟩ := hc1.cl
    go_wp2_with fail
    refine (HS _ (hN.on b1)).out.mono ?_
    rintro e w2 ⟨⟨l, hl', rfl⟩, c2⟩
    have b2 := b1.trans (c2.mono b1.size)
    have hc2 := hc1.on c2 hc1.lt
    have HP := fun W hn => HP W l hn hl'
    rw [hl', hpl] at HP
    clear hl' c2 b1 hc1 HS d0 d1 d2 d3 d4 d5 hpl
    obtain ⟨d0, d1, d2, d3, d4, d5⟩ := hc2.cl
    go_wp2_with fail
    refine (HP _ (hN.on b2)).out.mono ?_
    rintro e w3 ⟨⟨x, hx, rfl⟩, c3⟩
    obtain rfl : x = T2 := ebt x hx
    rw [ebk, ebh, ek, eh, ebn]
    have b3 := b2.trans (c3.mono b2.size)
    have hc3 := hc2.on c3 hc2.lt
    clear c3 b2 hc2 HP d0 d1 d2 d3 d4 d5 hx ebt
    have b4 := b3.alloc b3.size (.cells #[.int .i64 0, .int .i64 0, .int .i64 k, .int .i64 h, .int .i64 N2, .string x] 24)
    have hc4 : Cx (w3.alloc (.cells #[.int .i64 0, .int .i64 0, .int .i64 k, .int .i64 h, .int .i64 N2, .string x] 24)) w.heap.size u s k h n t := (nalloc_old w3 _ hc3.lt).trans hc3
    have hd4 := cx_new' w3 0 0 k h N2 x
    go_wp2_with fail
    generalize w3.alloc (.cells #[.int .i64 0, .int .i64 0, .int .i64 k, .int .i64 h, .int .i64 N2, .string x] 24) = w4 at *
    have hl1 := hc4.lt
    have hl2 := hd4.lt
    obtain ⟨d0, d1, d2, d3, d4, d5⟩ := hc4.cl
    obtain ⟨g0, g1, g2, g3, g4, g5⟩ := hd4.cl
    clear hc3 b3
    go_region_with (go_at_call 18; refine (HB _).out.mono ?_; rintro e w5 ⟨rfl, c5⟩; have k1 : Cx w5 w.heap.size u s k h n t := Cx.on (w := w4.drew) hc4 c5 hl1; have k2 : Cx w5 w3.heap.size 0 0 k h N2 x := Cx.on (w := w4.drew) hd4 c5 hl2; obtain ⟨m0, m1, m2, m3, m4, m5⟩ := k1.cl; obtain ⟨n0, n1, n2, n3, n4, n5⟩ := k2.cl)
    all_goals go_wp2
    all_goals go_ret
    all_goals exact ⟨rfl, b4.drew.trans (c5.mono b4.size)⟩

set_option maxRecDepth 100000 in
theorem lifted (os : Os) (started : os.Started) (H : Type) (enc : TypeId × Value → H) :
    ReturnsInHanded {} Tryd.checked os 5 .any (fun w args => (Rows.textBackSpec.pre enc Tryd.prog Tryd.f5 [] false w args ∧ laidMetH Tryd.prog laid14 w) ∧ sizedMet enc Tryd.prog Tryd.f5 (OpenSpec.ofChange Rows.textBackSpec) false w args)
      (Rows.textBackSpec.post enc Tryd.prog Tryd.f5 false true false false) := by
  refine returnsInHanded_of_change_and (C := Tryd.checked) (X := fun w _ => laidMetH Tryd.prog laid14 w) (fun _ _ _ hh h => h.of_heap hh) own started (by kernel_rfl) Tryd.func5
    (ChangeSpec.witness_shaped (enc := enc) (C := Tryd.checked) (os := os) (X := fun w _ => laidMetH Tryd.prog laid14 w) false (World.doorLaid Tryd.prog 71 os) #[.agg #[.int .i64 0, .int .i64 0, .int .i64 0, .int .i64 0, .int .i64 0, .string ⟨#[]⟩]] 8 rfl (World.shaped_of_RefB (by kernel_rfl) (by kernel_rfl)) (by kernel_rfl) (by kernel_rfl) (by kernel_rfl) (door_met os _)) ?_
  intro W base args ds gs before hval0 hW _ _ hL _
  have hN := nd_of_laid hL
  have hval : ∀ (j : Nat) t v, Tryd.f5.params[j]? = some t → args[j]? = some v → Value.okWide Tryd.prog W .any base t v := hval0
  have hW' := hW
  obtain ⟨p, q, hA0, hV, rfl, hfz, hnd⟩ := hW
  have hA : DataW.TrodAll enc Tryd.prog W 0 (fun _ => true) true Tryd.f5.params.toList args.toList ds p := hA0
  rw [Tryd.params5] at hA hval
  obtain ⟨v0, vs0, d0, ds0, p0, q0, hargs, rfl, rfl, h0, r0⟩ := trodAll_cons hA
  obtain ⟨rfl, rfl, rfl⟩ := trodAll_nil r0
  obtain rfl : args = #[v0] := by cases args; simp_all
  obtain ⟨rfl, rfl⟩ := trodVars_none hV
  have k0' := h0
  have lt0 : ∀ x ∈ p0, x.block < W.heap.size := by obtain ⟨m, hm⟩ := k0'; exact DataW.trod_lt m _ _ _ hm
  obtain ⟨u0, s0, k0, h0c, n0, t0, rfl⟩ := open_cmd (hval 0 24 v0 rfl rfl) h0
  clear hA0 hval0
  refine (walk u0 s0 k0 h0c n0 t0 W hN ).mono fun e W' ⟨he, bel⟩ => ?_
  subst he
  exact ⟨_, rfl, _, _, _, [], _, [], hW', trodAll_mk1 (shut_bool Tryd.underlying4 _), (trodAll_cons_mk (Below.trod laidOut (by kernel_rfl) (of_decide_eq_true (by kernel_rfl)) k0' bel lt0) trodAll_mk0), rfl, bel.frame _, fun h => by cases h⟩

theorem over : Rows.TextBackSaid :=
  OpenClaim.holds_of_wide 5 Tryd.f5 rfl rfl rfl rfl rfl rfl rfl ⟨rfl, rfl, rfl, rfl, rfl⟩ rfl rfl rfl rfl rfl (by kernel_rfl) Tryd.func5 (by kernel_rfl)
    (of_decide_eq_true (by kernel_rfl)) (by unfold Func.isWrapper; first | (rw [if_pos (by decide +kernel)]; kernel_rfl) | (rw [if_neg (by decide +kernel)]; exact ⟨rfl, rfl⟩))
    (fun os started H enc _ => lifted os started H enc)

theorem proved : Rows.TextBackCardSaid :=
  Claim7.holds_tied_plain_at .later [] [.data, .data, .data, .sentinel, .sentinel, .data] true (true, "335a6963d3f088ffb995e293bbf0da4bbbb660197f74018b2e2394ea562ca93f") true
    over (fun _ h => by cases h) (by kernel_rfl) (fun _ h => by cases h) textBack_row_tie rfl ⟨rfl, rfl⟩ (by kernel_rfl) rfl
    (fun f fn hf hfn => by
      obtain rfl : f = 5 := Option.some.inj ((show Tryd.prog.funcNamed "colloquy/colloquylaw14.TextBack" = some 5 by kernel_rfl).symm.trans hf) |>.symm
      obtain rfl : fn = Tryd.f5 := (Option.some.inj (Tryd.func5.symm.trans hfn)).symm
      exact ⟨by kernel_rfl, fun j t ht => by
        rw [Tryd.params5] at ht
        have hm : t ∈ [24] := by simpa using Array.mem_of_getElem? ht
        have hall : ([24].all fun u => !Tryd.prog.wantsStandIn u) = true := by kernel_rfl
        exact (show Tryd.prog.wantsStandIn t = false by simpa using List.all_eq_true.1 hall t hm)⟩)
    (by kernel_rfl)
#print axioms proved
end Go.Proofs.YtpeieagfndggbaaDoor.textBack
