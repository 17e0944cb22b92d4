/-
  THE LAW TextParses (THE STAGE'S THEOREM): what any line asks for, or what is wrong in it, is what the document says; so is whether it may be a text. Conditions: what the row lists (the tables as their initialisers lay them).
-/
import Derived.Test.YtpeieagfndggbaaDoorRq
import Derived.Test.YtpeieagfndggbaaDoorCards
import Derived.Test.YtpeieagfndggbaaDoorTie
import Derived.SevenTiedAt
import Derived.ChangeMaps5
namespace Go.Proofs.YtpeieagfndggbaaDoor.textParses
open Go.ChangeShapes Go.WideShapes Go.ChangeAt Go.RowKit Go.Joins Go.ChangeMaps Tx
set_option linter.unusedVariables false

attribute [local go_sem ↓ high] eq24 guard24
theorem long (s : ByteArray) (w : World) (hN : Nd w) (hl : 500 < (s.size : Int)) : Calls Tryd.prog 3 #[.string s] w (UpPost w) := by
  have HAw := Lib.hid (awake_any w hN)
  go_enter Tryd.func3, Tryd.ntmps3
  go_wp2_with fail
  refine HAw.out.mono ?_
  rintro e w1 ⟨rfl, b1⟩
  go_wp2
  go_ret
  exact ⟨rfl, b1⟩
set_option maxHeartbeats 4000000 in
set_option maxRecDepth 100000 in
theorem walk (s : ByteArray) (w : World) (hN : Nd w) (z0 : s.size ≤ maxLen) : Calls Tryd.prog 3 #[.string s] w (UpPost w) := by
  by_cases hl : 500 < (s.size : Int)
  · exact long s w hN hl
  clear z0
  have HAw := Lib.hid (awake_any w hN)
  have HM := fun W => Lib.hid (may_any s W)
  have HR := fun W => Lib.hid (rmay_any s W)
  have HP := fun W hn => Lib.hid (parse_any s W (by omega) hn)
  have HQ := fun W => Lib.hid (rparse_any s W (by omega))
  generalize parse (nt s) = r at *
  generalize may (nt s) = M at *
  obtain ⟨⟨K, CH, NN, T⟩, X⟩ := r
  go_enter Tryd.func3, Tryd.ntmps3
  go_wp2_with fail
  refine HAw.out.mono ?_
  rintro e w1 ⟨rfl, b1⟩
  have N1 := hN.on b1
  go_wp2_with fail
  refine (HP _ N1).out.mono ?_
  rintro e w2 ⟨⟨t, ht, rfl⟩, c2⟩
  have b2 := b1.trans (c2.mono b1.size)
  clear c2 b1 HP N1
  have b3 := b2.alloc b2.size (.cells #[.int .i64 0, .int .i64 0, .int .i64 K, .int .i64 CH, .int .i64 NN, .string t] 24)
  have hcx := cx_new' w2 0 0 K CH NN t
  go_wp2_with fail
  generalize w2.alloc (.cells #[.int .i64 0, .int .i64 0, .int .i64 K, .int .i64 CH, .int .i64 NN, .string t] 24) = w3 at *
  refine (HQ _).out.mono ?_
  rintro e w4 ⟨⟨t', ht', rfl⟩, c4⟩
  obtain rfl : t' = t := nt_inj (ht'.trans ht.symm)
  have b4 := b3.trans (c4.mono b3.size)
  have hc4 := hcx.on c4 hcx.lt
  have hlt := hc4.lt
  have b5 := b4.alloc b4.size (.cells #[.int .i64 0, .int .i64 0, .int .i64 K, .int .i64 CH, .int .i64 NN, .string t'] 24)
  clear ht ht' c4 hcx b3 HQ b2
  obtain ⟨d0, d1, d2, d3, d4, d5⟩ := hc4.cl
  go_wp2_with fail
  generalize w4.alloc (.cells #[.int .i64 0, .int .i64 0, .int .i64 K, .int .i64 CH, .int .i64 NN, .string t'] 24) = w5 at *
  refine (HM _).out.mono ?_
  rintro e w6 ⟨rfl, c6⟩
  have b6 := b5.trans (c6.mono b5.size)
  clear d0 d1 d2 d3 d4 d5
  go_wp2_with fail
  refine (HR _).out.mono ?_
  rintro e w7 ⟨rfl, rfl⟩
  go_wp2
  go_ret
  exact ⟨rfl, b6⟩

set_option maxRecDepth 100000 in
theorem lifted (os : Os) (started : os.Started) (H : Type) (enc : TypeId × Value → H) :
    ReturnsInHanded {} Tryd.checked os 3 .any (fun w args => (Rows.textParsesSpec.pre enc Tryd.prog Tryd.f3 [] false w args ∧ laidMetH Tryd.prog laid14 w) ∧ sizedMet enc Tryd.prog Tryd.f3 (OpenSpec.ofChange Rows.textParsesSpec) false w args)
      (Rows.textParsesSpec.post enc Tryd.prog Tryd.f3 false true false false) := by
  refine returnsInHanded_of_change_and (C := Tryd.checked) (X := fun w _ => laidMetH Tryd.prog laid14 w) (fun _ _ _ hh h => h.of_heap hh) own started (by kernel_rfl) Tryd.func3
    (ChangeSpec.witness_shaped (enc := enc) (C := Tryd.checked) (os := os) (X := fun w _ => laidMetH Tryd.prog laid14 w) false (World.doorLaid Tryd.prog 71 os) #[.string ⟨#[]⟩] 8 rfl (World.shaped_of_RefB (by kernel_rfl) (by kernel_rfl)) (by kernel_rfl) (by kernel_rfl) (by kernel_rfl) (door_met os _)) ?_
  intro W base args ds gs before hval0 hW _ _ hL _
  have hN := nd_of_laid hL
  have hval : ∀ (j : Nat) t v, Tryd.f3.params[j]? = some t → args[j]? = some v → Value.okWide Tryd.prog W .any base t v := hval0
  have hW' := hW
  obtain ⟨p, q, hA0, hV, rfl, hfz, hnd⟩ := hW
  have hA : DataW.TrodAll enc Tryd.prog W 0 (fun _ => true) true Tryd.f3.params.toList args.toList ds p := hA0
  rw [Tryd.params3] at hA hval
  obtain ⟨v0, vs0, d0, ds0, p0, q0, hargs, rfl, rfl, h0, r0⟩ := trodAll_cons hA
  obtain ⟨rfl, rfl, rfl⟩ := trodAll_nil r0
  obtain rfl : args = #[v0] := by cases args; simp_all
  obtain ⟨rfl, rfl⟩ := trodVars_none hV
  obtain ⟨s0, rfl, rfl, rfl, z0⟩ := open_string Tryd.underlying9 (hval 0 9 v0 rfl rfl) h0
  clear hA0 hval0
  refine (walk s0 W hN z0).mono fun e W' ⟨he, bel⟩ => ?_
  subst he
  exact ⟨_, rfl, _, _, _, [], _, [], hW', trodAll_mk1 (shut_bool Tryd.underlying4 _), (trodAll_cons_mk (shut_string Tryd.underlying9 z0) trodAll_mk0), rfl, bel.frame _, fun h => by cases h⟩

theorem over : Rows.TextParsesSaid :=
  OpenClaim.holds_of_wide 3 Tryd.f3 rfl rfl rfl rfl rfl rfl rfl ⟨rfl, rfl, rfl, rfl, rfl⟩ rfl rfl rfl rfl rfl (by kernel_rfl) Tryd.func3 (by kernel_rfl)
    (of_decide_eq_true (by kernel_rfl)) (by unfold Func.isWrapper; first | (rw [if_pos (by decide +kernel)]; kernel_rfl) | (rw [if_neg (by decide +kernel)]; exact ⟨rfl, rfl⟩))
    (fun os started H enc _ => lifted os started H enc)

theorem proved : Rows.TextParsesCardSaid :=
  Claim7.holds_tied_plain_at .later [] [.data, .data, .data, .sentinel, .sentinel, .data] true (true, "335a6963d3f088ffb995e293bbf0da4bbbb660197f74018b2e2394ea562ca93f") true
    over (fun _ h => by cases h) (by kernel_rfl) (fun _ h => by cases h) textParses_row_tie rfl ⟨rfl, rfl⟩ (by kernel_rfl) rfl
    (fun f fn hf hfn => by
      obtain rfl : f = 3 := Option.some.inj ((show Tryd.prog.funcNamed "colloquy/colloquylaw14.TextParses" = some 3 by kernel_rfl).symm.trans hf) |>.symm
      obtain rfl : fn = Tryd.f3 := (Option.some.inj (Tryd.func3.symm.trans hfn)).symm
      exact ⟨by kernel_rfl, fun j t ht => by
        rw [Tryd.params3] at ht
        have hm : t ∈ [9] := by simpa using Array.mem_of_getElem? ht
        have hall : ([9].all fun u => !Tryd.prog.wantsStandIn u) = true := by kernel_rfl
        exact (show Tryd.prog.wantsStandIn t = false by simpa using List.all_eq_true.1 hall t hm)⟩)
    (by kernel_rfl)
#print axioms proved
end Go.Proofs.YtpeieagfndggbaaDoor.textParses
