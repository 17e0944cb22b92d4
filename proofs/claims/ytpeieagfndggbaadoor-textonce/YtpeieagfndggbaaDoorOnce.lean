/-
  THE LAW TextOnce: what is parsed is shown as the same line. Conditions: what the row lists (the tables as their initialisers lay them).
-/
import Derived.Test.YtpeieagfndggbaaDoorAwk
import Derived.Test.YtpeieagfndggbaaDoorCards
import Derived.Test.YtpeieagfndggbaaDoorTie
import Derived.SevenTiedAt
import Derived.ChangeMaps5
namespace Go.Proofs.YtpeieagfndggbaaDoor.textOnce
open Go.ChangeShapes Go.WideShapes Go.ChangeAt Go.RowKit Go.Joins Go.ChangeMaps Tx
set_option linter.unusedVariables false

attribute [local go_sem ↓ high] eq24 guard24
theorem long (s : ByteArray) (w : World) (hN : Nd w) (hl : 500 < (s.size : Int)) : Calls Tryd.prog 6 #[.string s] w (UpPost w) := by
  have HAw := Lib.hid (awake_any w hN)
  go_enter Tryd.func6, Tryd.ntmps6
  go_wp2_with fail
  refine HAw.out.mono ?_
  rintro e w1 ⟨rfl, b1⟩
  go_wp2
  go_ret
  exact ⟨rfl, b1⟩
theorem fit_shown {C : Co} (h : Fit C) : shown C.k C.ch C.n C.t = (line C, 0) := by
  obtain ⟨hk, hc, hn, ht⟩ := h
  have e : sayable C.k C.ch C.n C.t = true := by
    refine say_iff.2 ⟨by omega, by omega, ?_, ?_⟩
    · rw [Int.toNat_natCast]; intro q; have := hn q; omega
    · rw [Int.toNat_natCast]; exact ht
  unfold shown
  rw [if_pos e, Int.toNat_natCast, Int.toNat_natCast, Int.toNat_natCast]
set_option maxHeartbeats 4000000 in
set_option maxRecDepth 100000 in
theorem walk (s : ByteArray) (w : World) (hN : Nd w) (z0 : s.size ≤ maxLen) : Calls Tryd.prog 6 #[.string s] w (UpPost w) := by
  by_cases hl : 500 < (s.size : Int)
  · exact long s w hN hl
  clear z0
  have HAw := Lib.hid (awake_any w hN)
  have HP := fun W hn => Lib.hid (parse_any s W (by omega) hn)
  by_cases hx : (parse (nt s)).2 = 0
  · obtain ⟨C, hC⟩ : ∃ C, parse (nt s) = (C, 0) := ⟨(parse (nt s)).1, Prod.ext rfl hx⟩
    obtain ⟨fit, hl, hb⟩ := line_parse hC
    have htl : C.t.length ≤ 64 := by
      have e : C.t = (bare C).t := by rw [hb]
      rw [e]
      show (if worded C.k = true then C.t else []).length ≤ 64
      cases q : worded C.k
      · simp
      · exact (may_iff.1 (fit.t q)).2.1
    have HS := fun W t hn (ht : nt t = C.t) => Lib.hid (show_any 0 0 C.k C.ch C.n t W hn (by rw [← nt_len, ht]; omega))
    have hsh := fit_shown fit
    rw [hl] at hsh
    rw [hC] at HP
    clear fit hl hb hx hC
    obtain ⟨K, CH, NN, T⟩ := C
    go_enter Tryd.func6, Tryd.ntmps6
    go_wp2_with fail
    refine HAw.out.mono ?_
    rintro e w1 ⟨rfl, b1⟩
    have N1 := hN.on b1
    go_wp2_with fail
    refine (HP _ N1).out.mono ?_
    rintro e w2 ⟨⟨t, ht, rfl⟩, c2⟩
    have b2 := b1.trans (c2.mono b1.size)
    clear c2 b1 HP N1
    have HS := fun W hn => HS W t hn ht
    rw [ht, hsh] at HS
    clear ht hsh htl
    have b3 := b2.alloc b2.size (.cells #[.int .i64 0, .int .i64 0, .int .i64 K, .int .i64 CH, .int .i64 NN, .string t] 24)
    have hcx := cx_new' w2 0 0 K CH NN t
    go_wp2_with fail
    generalize w2.alloc (.cells #[.int .i64 0, .int .i64 0, .int .i64 K, .int .i64 CH, .int .i64 NN, .string t] 24) = w3 at *
    have N3 := hN.on b3
    refine (HS _ N3).out.mono ?_
    rintro e w4 ⟨⟨u, hu, rfl⟩, c4⟩
    obtain rfl : u = s := nt_inj hu
    have b4 := b3.trans (c4.mono b3.size)
    go_wp2
    go_ret
    exact ⟨rfl, b4⟩
  · have hn := parse_none hx
    rw [hn] at HP
    have q1 : ¬ (((parse (nt s)).2 : Nat) : Int) = 0 := by omega
    have q2 : ((((parse (nt s)).2 : Nat) : Int) == 0) = false := beq_eq_false_iff_ne.2 q1
    generalize (parse (nt s)).2 = X at *
    clear hx hn
    go_enter Tryd.func6, Tryd.ntmps6
    go_wp2_with fail
    refine HAw.out.mono ?_
    rintro e w1 ⟨rfl, b1⟩
    have N1 := hN.on b1
    go_wp2_with fail
    refine (HP _ N1).out.mono ?_
    rintro e w2 hp
    obtain ⟨rfl, c2⟩ := pa_none hp
    have b2 := b1.trans (c2.mono b1.size)
    clear c2 b1 HP N1
    have b3 := b2.alloc b2.size (.cells #[.int .i64 0, .int .i64 0, .int .i64 0, .int .i64 0, .int .i64 0, .string ⟨#[]⟩] 24)
    go_wp2
    go_ret
    exact ⟨rfl, b3⟩

set_option maxRecDepth 100000 in
theorem lifted (os : Os) (started : os.Started) (H : Type) (enc : TypeId × Value → H) :
    ReturnsInHanded {} Tryd.checked os 6 .any (fun w args => (Rows.textOnceSpec.pre enc Tryd.prog Tryd.f6 [] false w args ∧ laidMetH Tryd.prog laid14 w) ∧ sizedMet enc Tryd.prog Tryd.f6 (OpenSpec.ofChange Rows.textOnceSpec) false w args)
      (Rows.textOnceSpec.post enc Tryd.prog Tryd.f6 false true false false) := by
  refine returnsInHanded_of_change_and (C := Tryd.checked) (X := fun w _ => laidMetH Tryd.prog laid14 w) (fun _ _ _ hh h => h.of_heap hh) own started (by kernel_rfl) Tryd.func6
    (ChangeSpec.witness_shaped (enc := enc) (C := Tryd.checked) (os := os) (X := fun w _ => laidMetH Tryd.prog laid14 w) false (World.doorLaid Tryd.prog 71 os) #[.string ⟨#[]⟩] 8 rfl (World.shaped_of_RefB (by kernel_rfl) (by kernel_rfl)) (by kernel_rfl) (by kernel_rfl) (by kernel_rfl) (door_met os _)) ?_
  intro W base args ds gs before hval0 hW _ _ hL _
  have hN := nd_of_laid hL
  have hval : ∀ (j : Nat) t v, Tryd.f6.params[j]? = some t → args[j]? = some v → Value.okWide Tryd.prog W .any base t v := hval0
  have hW' := hW
  obtain ⟨p, q, hA0, hV, rfl, hfz, hnd⟩ := hW
  have hA : DataW.TrodAll enc Tryd.prog W 0 (fun _ => true) true Tryd.f6.params.toList args.toList ds p := hA0
  rw [Tryd.params6] at hA hval
  obtain ⟨v0, vs0, d0, ds0, p0, q0, hargs, rfl, rfl, h0, r0⟩ := trodAll_cons hA
  obtain ⟨rfl, rfl, rfl⟩ := trodAll_nil r0
  obtain rfl : args = #[v0] := by cases args; simp_all
  obtain ⟨rfl, rfl⟩ := trodVars_none hV
  obtain ⟨s0, rfl, rfl, rfl, z0⟩ := open_string Tryd.underlying9 (hval 0 9 v0 rfl rfl) h0
  clear hA0 hval0
  refine (walk s0 W hN z0).mono fun e W' ⟨he, bel⟩ => ?_
  subst he
  exact ⟨_, rfl, _, _, _, [], _, [], hW', trodAll_mk1 (shut_bool Tryd.underlying4 _), (trodAll_cons_mk (shut_string Tryd.underlying9 z0) trodAll_mk0), rfl, bel.frame _, fun h => by cases h⟩

theorem over : Rows.TextOnceSaid :=
  OpenClaim.holds_of_wide 6 Tryd.f6 rfl rfl rfl rfl rfl rfl rfl ⟨rfl, rfl, rfl, rfl, rfl⟩ rfl rfl rfl rfl rfl (by kernel_rfl) Tryd.func6 (by kernel_rfl)
    (of_decide_eq_true (by kernel_rfl)) (by unfold Func.isWrapper; first | (rw [if_pos (by decide +kernel)]; kernel_rfl) | (rw [if_neg (by decide +kernel)]; exact ⟨rfl, rfl⟩))
    (fun os started H enc _ => lifted os started H enc)

theorem proved : Rows.TextOnceCardSaid :=
  Claim7.holds_tied_plain_at .later [] [.data, .data, .data, .sentinel, .sentinel, .data] true (true, "335a6963d3f088ffb995e293bbf0da4bbbb660197f74018b2e2394ea562ca93f") true
    over (fun _ h => by cases h) (by kernel_rfl) (fun _ h => by cases h) textOnce_row_tie rfl ⟨rfl, rfl⟩ (by kernel_rfl) rfl
    (fun f fn hf hfn => by
      obtain rfl : f = 6 := Option.some.inj ((show Tryd.prog.funcNamed "colloquy/colloquylaw14.TextOnce" = some 6 by kernel_rfl).symm.trans hf) |>.symm
      obtain rfl : fn = Tryd.f6 := (Option.some.inj (Tryd.func6.symm.trans hfn)).symm
      exact ⟨by kernel_rfl, fun j t ht => by
        rw [Tryd.params6] at ht
        have hm : t ∈ [9] := by simpa using Array.mem_of_getElem? ht
        have hall : ([9].all fun u => !Tryd.prog.wantsStandIn u) = true := by kernel_rfl
        exact (show Tryd.prog.wantsStandIn t = false by simpa using List.all_eq_true.1 hall t hm)⟩)
    (by kernel_rfl)
#print axioms proved
end Go.Proofs.YtpeieagfndggbaaDoor.textOnce
