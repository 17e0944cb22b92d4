/-
  THE LAW TextLong: a text of more than 64 bytes is refused as too long, whatever it is; one of at most 64, if it may be, is not. Conditions: what the row lists (the tables as their initialisers lay them).
-/
import Derived.Test.YtpeieagfndggbaaDoorAwk
import Derived.Test.YtpeieagfndggbaaDoorCards
import Derived.Test.YtpeieagfndggbaaDoorTie
import Derived.SevenTiedAt
import Derived.ChangeMaps5
namespace Go.Proofs.YtpeieagfndggbaaDoor.textLong
open Go.ChangeShapes Go.WideShapes Go.ChangeAt Go.RowKit Go.Joins Go.ChangeMaps Tx
set_option linter.unusedVariables false

attribute [local go_sem ↓ high] eq24 guard24
theorem long (s : ByteArray) (w : World) (hN : Nd w) (hl : 500 < (s.size : Int)) : Calls Tryd.prog 8 #[.string s] w (UpPost w) := by
  have HAw := Lib.hid (awake_any w hN)
  go_enter Tryd.func8, Tryd.ntmps8
  go_wp2_with fail
  refine HAw.out.mono ?_
  rintro e w1 ⟨rfl, b1⟩
  go_wp2
  go_ret
  exact ⟨rfl, b1⟩
set_option maxHeartbeats 4000000 in
set_option maxRecDepth 100000 in
theorem walk (s : ByteArray) (w : World) (hN : Nd w) (z0 : s.size ≤ maxLen) : Calls Tryd.prog 8 #[.string s] w (UpPost w) := by
  by_cases hl : 500 < (s.size : Int)
  · exact long s w hN hl
  clear z0
  have HAw := Lib.hid (awake_any w hN)
  have HM := fun W => Lib.hid (may_any s W)
  have q1 : ¬ 9223372036854775807 < 8 + s.size := by omega
  have hs2 : (({ data := #[47, 112, 111, 115, 116, 32, 49, 32] } : ByteArray) ++ s).size ≤ 1000000000 := by
    have : (({ data := #[47, 112, 111, 115, 116, 32, 49, 32] } : ByteArray) ++ s).size = 8 + s.size := by rw [ByteArray.size_append]; rfl
    omega
  have HP := fun W hn => Lib.hid (parse_any (({ data := #[47, 112, 111, 115, 116, 32, 49, 32] } : ByteArray) ++ s) W hs2 hn)
  have e8 : nt (({ data := #[47, 112, 111, 115, 116, 32, 49, 32] } : ByteArray) ++ s) = [47, 112, 111, 115, 116, 32, 49, 32] ++ nt s := by rw [nt_append]; rfl
  rw [e8, parse_long, nt_len] at HP
  by_cases h64 : 64 < s.size
  · rw [if_pos h64] at HP
    have i1 : 64 < (s.size : Int) := by omega
    clear h64
    go_enter Tryd.func8, Tryd.ntmps8
    go_wp2_with fail
    refine HAw.out.mono ?_
    rintro e w1 ⟨rfl, b1⟩
    have N1 := hN.on b1
    go_wp2_with fail
    refine (HP _ N1).out.mono ?_
    rintro e w2 hp
    obtain ⟨rfl, c2⟩ := pa_none hp
    have b2 := b1.trans (c2.mono b1.size)
    clear c2 b1 HP N1
    go_wp2
    go_ret
    exact ⟨rfl, b2.alloc b2.size _⟩
  · rw [if_neg h64] at HP
    have i1 : ¬ 64 < (s.size : Int) := by omega
    clear h64
    cases hm : may (nt s)
    · rw [hm] at HM
      rw [hm, if_neg (by decide)] at HP
      go_enter Tryd.func8, Tryd.ntmps8
      go_wp2_with fail
      refine HAw.out.mono ?_
      rintro e w1 ⟨rfl, b1⟩
      have N1 := hN.on b1
      go_wp2_with fail
      refine (HP _ N1).out.mono ?_
      rintro e w2 hp
      obtain ⟨rfl, c2⟩ := pa_none hp
      have b2 := b1.trans (c2.mono b1.size)
      clear c2 b1 HP N1
      have b3 := b2.alloc b2.size (.cells #[.int .i64 0, .int .i64 0, .int .i64 0, .int .i64 0, .int .i64 0, .string ⟨#[]⟩] 24)
      have hcx := cx_new' w2 0 0 0 0 0 ⟨#[]⟩
      go_wp2_with fail
      generalize w2.alloc (.cells #[.int .i64 0, .int .i64 0, .int .i64 0, .int .i64 0, .int .i64 0, .string ⟨#[]⟩] 24) = w3 at *
      refine (HM _).out.mono ?_
      rintro e w4 ⟨rfl, c4⟩
      have b4 := b3.trans (c4.mono b3.size)
      have hcx := hcx.on c4 hcx.lt
      obtain ⟨d0, d1, d2, d3, d4, d5⟩ := hcx.cl
      go_wp2
      go_ret
      exact ⟨rfl, b4⟩
    · rw [hm] at HM
      rw [hm, if_pos rfl] at HP
      go_enter Tryd.func8, Tryd.ntmps8
      go_wp2_with fail
      refine HAw.out.mono ?_
      rintro e w1 ⟨rfl, b1⟩
      have N1 := hN.on b1
      go_wp2_with fail
      refine (HP _ N1).out.mono ?_
      rintro e w2 ⟨⟨t, ht, rfl⟩, c2⟩
      have b2 := b1.trans (c2.mono b1.size)
      clear c2 b1 HP N1
      obtain rfl : t = s := nt_inj ht
      clear ht
      have b3 := b2.alloc b2.size (.cells #[.int .i64 0, .int .i64 0, .int .i64 4, .int .i64 1, .int .i64 0, .string t] 24)
      have hcx := cx_new' w2 0 0 4 1 0 t
      go_wp2_with fail
      generalize w2.alloc (.cells #[.int .i64 0, .int .i64 0, .int .i64 4, .int .i64 1, .int .i64 0, .string t] 24) = w3 at *
      refine (HM _).out.mono ?_
      rintro e w4 ⟨rfl, c4⟩
      have b4 := b3.trans (c4.mono b3.size)
      have hcx := hcx.on c4 hcx.lt
      obtain ⟨d0, d1, d2, d3, d4, d5⟩ := hcx.cl
      go_wp2
      go_ret
      exact ⟨rfl, b4⟩

set_option maxRecDepth 100000 in
theorem lifted (os : Os) (started : os.Started) (H : Type) (enc : TypeId × Value → H) :
    ReturnsInHanded {} Tryd.checked os 8 .any (fun w args => (Rows.textLongSpec.pre enc Tryd.prog Tryd.f8 [] false w args ∧ laidMetH Tryd.prog laid14 w) ∧ sizedMet enc Tryd.prog Tryd.f8 (OpenSpec.ofChange Rows.textLongSpec) false w args)
      (Rows.textLongSpec.post enc Tryd.prog Tryd.f8 false true false false) := by
  refine returnsInHanded_of_change_and (C := Tryd.checked) (X := fun w _ => laidMetH Tryd.prog laid14 w) (fun _ _ _ hh h => h.of_heap hh) own started (by kernel_rfl) Tryd.func8
    (ChangeSpec.witness_shaped (enc := enc) (C := Tryd.checked) (os := os) (X := fun w _ => laidMetH Tryd.prog laid14 w) false (World.doorLaid Tryd.prog 71 os) #[.string ⟨#[]⟩] 8 rfl (World.shaped_of_RefB (by kernel_rfl) (by kernel_rfl)) (by kernel_rfl) (by kernel_rfl) (by kernel_rfl) (door_met os _)) ?_
  intro W base args ds gs before hval0 hW _ _ hL _
  have hN := nd_of_laid hL
  have hval : ∀ (j : Nat) t v, Tryd.f8.params[j]? = some t → args[j]? = some v → Value.okWide Tryd.prog W .any base t v := hval0
  have hW' := hW
  obtain ⟨p, q, hA0, hV, rfl, hfz, hnd⟩ := hW
  have hA : DataW.TrodAll enc Tryd.prog W 0 (fun _ => true) true Tryd.f8.params.toList args.toList ds p := hA0
  rw [Tryd.params8] at hA hval
  obtain ⟨v0, vs0, d0, ds0, p0, q0, hargs, rfl, rfl, h0, r0⟩ := trodAll_cons hA
  obtain ⟨rfl, rfl, rfl⟩ := trodAll_nil r0
  obtain rfl : args = #[v0] := by cases args; simp_all
  obtain ⟨rfl, rfl⟩ := trodVars_none hV
  obtain ⟨s0, rfl, rfl, rfl, z0⟩ := open_string Tryd.underlying9 (hval 0 9 v0 rfl rfl) h0
  clear hA0 hval0
  refine (walk s0 W hN z0).mono fun e W' ⟨he, bel⟩ => ?_
  subst he
  exact ⟨_, rfl, _, _, _, [], _, [], hW', trodAll_mk1 (shut_bool Tryd.underlying4 _), (trodAll_cons_mk (shut_string Tryd.underlying9 z0) trodAll_mk0), rfl, bel.frame _, fun h => by cases h⟩

theorem over : Rows.TextLongSaid :=
  OpenClaim.holds_of_wide 8 Tryd.f8 rfl rfl rfl rfl rfl rfl rfl ⟨rfl, rfl, rfl, rfl, rfl⟩ rfl rfl rfl rfl rfl (by kernel_rfl) Tryd.func8 (by kernel_rfl)
    (of_decide_eq_true (by kernel_rfl)) (by unfold Func.isWrapper; first | (rw [if_pos (by decide +kernel)]; kernel_rfl) | (rw [if_neg (by decide +kernel)]; exact ⟨rfl, rfl⟩))
    (fun os started H enc _ => lifted os started H enc)

theorem proved : Rows.TextLongCardSaid :=
  Claim7.holds_tied_plain_at .later [] [.data, .data, .data, .sentinel, .sentinel, .data] true (true, "335a6963d3f088ffb995e293bbf0da4bbbb660197f74018b2e2394ea562ca93f") true
    over (fun _ h => by cases h) (by kernel_rfl) (fun _ h => by cases h) textLong_row_tie rfl ⟨rfl, rfl⟩ (by kernel_rfl) rfl
    (fun f fn hf hfn => by
      obtain rfl : f = 8 := Option.some.inj ((show Tryd.prog.funcNamed "colloquy/colloquylaw14.TextLong" = some 8 by kernel_rfl).symm.trans hf) |>.symm
      obtain rfl : fn = Tryd.f8 := (Option.some.inj (Tryd.func8.symm.trans hfn)).symm
      exact ⟨by kernel_rfl, fun j t ht => by
        rw [Tryd.params8] at ht
        have hm : t ∈ [9] := by simpa using Array.mem_of_getElem? ht
        have hall : ([9].all fun u => !Tryd.prog.wantsStandIn u) = true := by kernel_rfl
        exact (show Tryd.prog.wantsStandIn t = false by simpa using List.all_eq_true.1 hall t hm)⟩)
    (by kernel_rfl)
#print axioms proved
end Go.Proofs.YtpeieagfndggbaaDoor.textLong
