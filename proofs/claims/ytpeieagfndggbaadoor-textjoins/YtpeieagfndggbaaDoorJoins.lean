/-
  THE LAW TextJoins: of two texts that may be, together of at most 64 bytes, both together may be; a text of at least two bytes may be without its last one just if that is below 128. Conditions: what the row lists (the tables as their initialisers lay them).
-/
import Derived.Test.YtpeieagfndggbaaDoorAwk
import Derived.Test.YtpeieagfndggbaaDoorCards
import Derived.Test.YtpeieagfndggbaaDoorTie
import Derived.SevenTiedAt
import Derived.ChangeMaps5
namespace Go.Proofs.YtpeieagfndggbaaDoor.textJoins
open Go.ChangeShapes Go.WideShapes Go.ChangeAt Go.RowKit Go.Joins Go.ChangeMaps Tx
set_option linter.unusedVariables false

attribute [local go_sem ↓ high] eq24 guard24
theorem long (a b : ByteArray) (w : World) (hN : Nd w) (hl : 500 < (a.size : Int) ∨ 500 < (b.size : Int)) : Calls Tryd.prog 7 #[.string a, .string b] w (UpPost w) := by
  have HAw := Lib.hid (awake_any w hN)
  by_cases h1 : 500 < (a.size : Int)
  · clear hl
    go_enter Tryd.func7, Tryd.ntmps7
    go_wp2_with fail
    refine HAw.out.mono ?_
    rintro e w1 ⟨rfl, b1⟩
    go_wp2
    go_ret
    exact ⟨rfl, b1⟩
  · have h2 : 500 < (b.size : Int) := by omega
    clear hl
    go_enter Tryd.func7, Tryd.ntmps7
    go_wp2_with fail
    refine HAw.out.mono ?_
    rintro e w1 ⟨rfl, b1⟩
    go_wp2
    go_ret
    exact ⟨rfl, b1⟩
theorem last_at {a : ByteArray} (h : 0 < a.size) : (nt a).getLast?.getD 0 = (a[a.size - 1]'(by omega)).toNat := by
  have e : (nt a).getLast?.getD 0 = (nt a).getD (a.size - 1) 0 := by
    rw [List.getLast?_eq_getElem?, nt_len, ← List.getD_eq_getElem?_getD]
  rw [e, nt_get]
  have := get_at a (a.size - 1) (by omega)
  rw [Nat.add_zero] at this
  rw [this]
theorem drop_last (a : ByteArray) : nt (a.extract 0 (a.size - 1)) = (nt a).dropLast := by
  rw [nt_extract, List.drop_zero, List.dropLast_eq_take, nt_len]
set_option maxHeartbeats 4000000 in
set_option maxRecDepth 100000 in
theorem walk (a b : ByteArray) (w : World) (hN : Nd w) (z0 : a.size ≤ maxLen) (z1 : b.size ≤ maxLen) : Calls Tryd.prog 7 #[.string a, .string b] w (UpPost w) := by
  by_cases hl : 500 < (a.size : Int) ∨ 500 < (b.size : Int)
  · exact long a b w hN hl
  have h1 : ¬ 500 < (a.size : Int) := fun q => hl (.inl q)
  have h2 : ¬ 500 < (b.size : Int) := fun q => hl (.inr q)
  clear hl z0 z1
  have HAw := Lib.hid (awake_any w hN)
  have HA := fun W => Lib.hid (may_any a W)
  have HB := fun W => Lib.hid (may_any b W)
  have HC := fun W => Lib.hid (may_any (a ++ b) W)
  have HL := fun W => Lib.hid (may_any (a.extract 0 (a.size - 1)) W)
  rw [nt_append] at HC
  rw [drop_last] at HL
  have q1 : ¬ 9223372036854775807 < a.size + b.size := by omega
  cases ha : may (nt a)
  · rw [ha] at HA
    go_enter Tryd.func7, Tryd.ntmps7
    go_wp2_with fail
    refine HAw.out.mono ?_
    rintro e w1 ⟨rfl, b1⟩
    go_wp2_with fail
    refine (HA _).out.mono ?_
    rintro e w2 ⟨rfl, c⟩
    have b2 := b1.trans (c.mono b1.size)
    clear c b1
    go_wp2_with fail
    refine (HA _).out.mono ?_
    rintro e w3 ⟨rfl, c⟩
    have b3 := b2.trans (c.mono b2.size)
    clear c b2
    go_wp2
    go_ret
    exact ⟨by first | rfl | (show Ending.returned (Value.bool (!decide _)) = _; rw [i4.out]; rfl), b3⟩
  · rw [ha] at HA
    cases hb : may (nt b)
    · rw [hb] at HB
      by_cases h3 : (a.size : Int) < 2
      · go_enter Tryd.func7, Tryd.ntmps7
        go_wp2_with fail
        refine HAw.out.mono ?_
        rintro e w1 ⟨rfl, b1⟩
        go_wp2_with fail
        refine (HA _).out.mono ?_
        rintro e w2 ⟨rfl, c⟩
        have b2 := b1.trans (c.mono b1.size)
        clear c b1
        go_wp2_with fail
        refine (HB _).out.mono ?_
        rintro e w3 ⟨rfl, c⟩
        have b3 := b2.trans (c.mono b2.size)
        clear c b2
        go_wp2_with fail
        refine (HA _).out.mono ?_
        rintro e w4 ⟨rfl, c⟩
        have b4 := b3.trans (c.mono b3.size)
        clear c b3
        go_wp2
        go_ret
        exact ⟨by first | rfl | (show Ending.returned (Value.bool (!decide _)) = _; rw [i4.out]; rfl), b4⟩
      · have h4 : 0 < a.size := by omega
        have i1 : (0 : Int) ≤ (a.size : Int) - 1 := by omega
        have i2 : (a.size : Int) - 1 < (a.size : Int) := by omega
        have hla := may_last ha (by rw [nt_len]; omega)
        rw [last_at h4] at hla
        rw [hla] at HL
        by_cases h8 : (a[a.size - 1]'(by omega)).toNat < 128
        · have i3 : (((a[a.size - 1]'(by omega)).toNat : Nat) : Int) < 128 := by omega
          rw [decide_eq_true h8] at HL
          clear h8
          go_enter Tryd.func7, Tryd.ntmps7
          go_wp2_with fail
          refine HAw.out.mono ?_
          rintro e w1 ⟨rfl, b1⟩
          go_wp2_with fail
          refine (HA _).out.mono ?_
          rintro e w2 ⟨rfl, c⟩
          have b2 := b1.trans (c.mono b1.size)
          clear c b1
          go_wp2_with fail
          refine (HB _).out.mono ?_
          rintro e w3 ⟨rfl, c⟩
          have b3 := b2.trans (c.mono b2.size)
          clear c b2
          go_wp2_with fail
          refine (HA _).out.mono ?_
          rintro e w4 ⟨rfl, c⟩
          have b4 := b3.trans (c.mono b3.size)
          clear c b3
          go_wp2_with fail
          refine (HL _).out.mono ?_
          rintro e w5 ⟨rfl, c⟩
          have b5 := b4.trans (c.mono b4.size)
          clear c b4
          go_wp2
          go_ret
          exact ⟨by first | rfl | (show Ending.returned (Value.bool (!decide _)) = _; rw [i4.out]; rfl), b5⟩
        · have i3 : ¬ (((a[a.size - 1]'(by omega)).toNat : Nat) : Int) < 128 := by omega
          rw [decide_eq_false h8] at HL
          have i4 := Lib.hid (decide_eq_false i3)
          clear h8
          go_enter Tryd.func7, Tryd.ntmps7
          go_wp2_with fail
          refine HAw.out.mono ?_
          rintro e w1 ⟨rfl, b1⟩
          go_wp2_with fail
          refine (HA _).out.mono ?_
          rintro e w2 ⟨rfl, c⟩
          have b2 := b1.trans (c.mono b1.size)
          clear c b1
          go_wp2_with fail
          refine (HB _).out.mono ?_
          rintro e w3 ⟨rfl, c⟩
          have b3 := b2.trans (c.mono b2.size)
          clear c b2
          go_wp2_with fail
          refine (HA _).out.mono ?_
          rintro e w4 ⟨rfl, c⟩
          have b4 := b3.trans (c.mono b3.size)
          clear c b3
          go_wp2_with fail
          refine (HL _).out.mono ?_
          rintro e w5 ⟨rfl, c⟩
          have b5 := b4.trans (c.mono b4.size)
          clear c b4
          go_wp2
          go_ret
          exact ⟨by first | rfl | (show Ending.returned (Value.bool (!decide _)) = _; rw [i4.out]; rfl), b5⟩
    · rw [hb] at HB
      by_cases hs : (a.size : Int) + (b.size : Int) ≤ 64
      · have hab := may_app ha hb (by rw [nt_len, nt_len]; omega)
        rw [hab] at HC
        by_cases h3 : (a.size : Int) < 2
        · go_enter Tryd.func7, Tryd.ntmps7
          go_wp2_with fail
          refine HAw.out.mono ?_
          rintro e w1 ⟨rfl, b1⟩
          go_wp2_with fail
          refine (HA _).out.mono ?_
          rintro e w2 ⟨rfl, c⟩
          have b2 := b1.trans (c.mono b1.size)
          clear c b1
          go_wp2_with fail
          refine (HB _).out.mono ?_
          rintro e w3 ⟨rfl, c⟩
          have b3 := b2.trans (c.mono b2.size)
          clear c b2
          go_wp2_with fail
          refine (HC _).out.mono ?_
          rintro e w4 ⟨rfl, c⟩
          have b4 := b3.trans (c.mono b3.size)
          clear c b3
          go_wp2_with fail
          refine (HA _).out.mono ?_
          rintro e w5 ⟨rfl, c⟩
          have b5 := b4.trans (c.mono b4.size)
          clear c b4
          go_wp2
          go_ret
          exact ⟨by first | rfl | (show Ending.returned (Value.bool (!decide _)) = _; rw [i4.out]; rfl), b5⟩
        · have h4 : 0 < a.size := by omega
          have i1 : (0 : Int) ≤ (a.size : Int) - 1 := by omega
          have i2 : (a.size : Int) - 1 < (a.size : Int) := by omega
          have hla := may_last ha (by rw [nt_len]; omega)
          rw [last_at h4] at hla
          rw [hla] at HL
          by_cases h8 : (a[a.size - 1]'(by omega)).toNat < 128
          · have i3 : (((a[a.size - 1]'(by omega)).toNat : Nat) : Int) < 128 := by omega
            rw [decide_eq_true h8] at HL
            clear h8
            go_enter Tryd.func7, Tryd.ntmps7
            go_wp2_with fail
            refine HAw.out.mono ?_
            rintro e w1 ⟨rfl, b1⟩
            go_wp2_with fail
            refine (HA _).out.mono ?_
            rintro e w2 ⟨rfl, c⟩
            have b2 := b1.trans (c.mono b1.size)
            clear c b1
            go_wp2_with fail
            refine (HB _).out.mono ?_
            rintro e w3 ⟨rfl, c⟩
            have b3 := b2.trans (c.mono b2.size)
            clear c b2
            go_wp2_with fail
            refine (HC _).out.mono ?_
            rintro e w4 ⟨rfl, c⟩
            have b4 := b3.trans (c.mono b3.size)
            clear c b3
            go_wp2_with fail
            refine (HA _).out.mono ?_
            rintro e w5 ⟨rfl, c⟩
            have b5 := b4.trans (c.mono b4.size)
            clear c b4
            go_wp2_with fail
            refine (HL _).out.mono ?_
            rintro e w6 ⟨rfl, c⟩
            have b6 := b5.trans (c.mono b5.size)
            clear c b5
            go_wp2
            go_ret
            exact ⟨by first | rfl | (show Ending.returned (Value.bool (!decide _)) = _; rw [i4.out]; rfl), b6⟩
          · have i3 : ¬ (((a[a.size - 1]'(by omega)).toNat : Nat) : Int) < 128 := by omega
            rw [decide_eq_false h8] at HL
            have i4 := Lib.hid (decide_eq_false i3)
            clear h8
            go_enter Tryd.func7, Tryd.ntmps7
            go_wp2_with fail
            refine HAw.out.mono ?_
            rintro e w1 ⟨rfl, b1⟩
            go_wp2_with fail
            refine (HA _).out.mono ?_
            rintro e w2 ⟨rfl, c⟩
            have b2 := b1.trans (c.mono b1.size)
            clear c b1
            go_wp2_with fail
            refine (HB _).out.mono ?_
            rintro e w3 ⟨rfl, c⟩
            have b3 := b2.trans (c.mono b2.size)
            clear c b2
            go_wp2_with fail
            refine (HC _).out.mono ?_
            rintro e w4 ⟨rfl, c⟩
            have b4 := b3.trans (c.mono b3.size)
            clear c b3
            go_wp2_with fail
            refine (HA _).out.mono ?_
            rintro e w5 ⟨rfl, c⟩
            have b5 := b4.trans (c.mono b4.size)
            clear c b4
            go_wp2_with fail
            refine (HL _).out.mono ?_
            rintro e w6 ⟨rfl, c⟩
            have b6 := b5.trans (c.mono b5.size)
            clear c b5
            go_wp2
            go_ret
            exact ⟨by first | rfl | (show Ending.returned (Value.bool (!decide _)) = _; rw [i4.out]; rfl), b6⟩
      · clear HC
        by_cases h3 : (a.size : Int) < 2
        · go_enter Tryd.func7, Tryd.ntmps7
          go_wp2_with fail
          refine HAw.out.mono ?_
          rintro e w1 ⟨rfl, b1⟩
          go_wp2_with fail
          refine (HA _).out.mono ?_
          rintro e w2 ⟨rfl, c⟩
          have b2 := b1.trans (c.mono b1.size)
          clear c b1
          go_wp2_with fail
          refine (HB _).out.mono ?_
          rintro e w3 ⟨rfl, c⟩
          have b3 := b2.trans (c.mono b2.size)
          clear c b2
          go_wp2_with fail
          refine (HA _).out.mono ?_
          rintro e w4 ⟨rfl, c⟩
          have b4 := b3.trans (c.mono b3.size)
          clear c b3
          go_wp2
          go_ret
          exact ⟨by first | rfl | (show Ending.returned (Value.bool (!decide _)) = _; rw [i4.out]; rfl), b4⟩
        · have h4 : 0 < a.size := by omega
          have i1 : (0 : Int) ≤ (a.size : Int) - 1 := by omega
          have i2 : (a.size : Int) - 1 < (a.size : Int) := by omega
          have hla := may_last ha (by rw [nt_len]; omega)
          rw [last_at h4] at hla
          rw [hla] at HL
          by_cases h8 : (a[a.size - 1]'(by omega)).toNat < 128
          · have i3 : (((a[a.size - 1]'(by omega)).toNat : Nat) : Int) < 128 := by omega
            rw [decide_eq_true h8] at HL
            clear h8
            go_enter Tryd.func7, Tryd.ntmps7
            go_wp2_with fail
            refine HAw.out.mono ?_
            rintro e w1 ⟨rfl, b1⟩
            go_wp2_with fail
            refine (HA _).out.mono ?_
            rintro e w2 ⟨rfl, c⟩
            have b2 := b1.trans (c.mono b1.size)
            clear c b1
            go_wp2_with fail
            refine (HB _).out.mono ?_
            rintro e w3 ⟨rfl, c⟩
            have b3 := b2.trans (c.mono b2.size)
            clear c b2
            go_wp2_with fail
            refine (HA _).out.mono ?_
            rintro e w4 ⟨rfl, c⟩
            have b4 := b3.trans (c.mono b3.size)
            clear c b3
            go_wp2_with fail
            refine (HL _).out.mono ?_
            rintro e w5 ⟨rfl, c⟩
            have b5 := b4.trans (c.mono b4.size)
            clear c b4
            go_wp2
            go_ret
            exact ⟨by first | rfl | (show Ending.returned (Value.bool (!decide _)) = _; rw [i4.out]; rfl), b5⟩
          · have i3 : ¬ (((a[a.size - 1]'(by omega)).toNat : Nat) : Int) < 128 := by omega
            rw [decide_eq_false h8] at HL
            have i4 := Lib.hid (decide_eq_false i3)
            clear h8
            go_enter Tryd.func7, Tryd.ntmps7
            go_wp2_with fail
            refine HAw.out.mono ?_
            rintro e w1 ⟨rfl, b1⟩
            go_wp2_with fail
            refine (HA _).out.mono ?_
            rintro e w2 ⟨rfl, c⟩
            have b2 := b1.trans (c.mono b1.size)
            clear c b1
            go_wp2_with fail
            refine (HB _).out.mono ?_
            rintro e w3 ⟨rfl, c⟩
            have b3 := b2.trans (c.mono b2.size)
            clear c b2
            go_wp2_with fail
            refine (HA _).out.mono ?_
            rintro e w4 ⟨rfl, c⟩
            have b4 := b3.trans (c.mono b3.size)
            clear c b3
            go_wp2_with fail
            refine (HL _).out.mono ?_
            rintro e w5 ⟨rfl, c⟩
            have b5 := b4.trans (c.mono b4.size)
            clear c b4
            go_wp2
            go_ret
            exact ⟨by first | rfl | (show Ending.returned (Value.bool (!decide _)) = _; rw [i4.out]; rfl), b5⟩

set_option maxRecDepth 100000 in
theorem lifted (os : Os) (started : os.Started) (H : Type) (enc : TypeId × Value → H) :
    ReturnsInHanded {} Tryd.checked os 7 .any (fun w args => (Rows.textJoinsSpec.pre enc Tryd.prog Tryd.f7 [] false w args ∧ laidMetH Tryd.prog laid14 w) ∧ sizedMet enc Tryd.prog Tryd.f7 (OpenSpec.ofChange Rows.textJoinsSpec) false w args)
      (Rows.textJoinsSpec.post enc Tryd.prog Tryd.f7 false true false false) := by
  refine returnsInHanded_of_change_and (C := Tryd.checked) (X := fun w _ => laidMetH Tryd.prog laid14 w) (fun _ _ _ hh h => h.of_heap hh) own started (by kernel_rfl) Tryd.func7
    (ChangeSpec.witness_shaped (enc := enc) (C := Tryd.checked) (os := os) (X := fun w _ => laidMetH Tryd.prog laid14 w) false (World.doorLaid Tryd.prog 71 os) #[.string ⟨#[]⟩, .string ⟨#[]⟩] 8 rfl (World.shaped_of_RefB (by kernel_rfl) (by kernel_rfl)) (by kernel_rfl) (by kernel_rfl) (by kernel_rfl) (door_met os _)) ?_
  intro W base args ds gs before hval0 hW _ _ hL _
  have hN := nd_of_laid hL
  have hval : ∀ (j : Nat) t v, Tryd.f7.params[j]? = some t → args[j]? = some v → Value.okWide Tryd.prog W .any base t v := hval0
  have hW' := hW
  obtain ⟨p, q, hA0, hV, rfl, hfz, hnd⟩ := hW
  have hA : DataW.TrodAll enc Tryd.prog W 0 (fun _ => true) true Tryd.f7.params.toList args.toList ds p := hA0
  rw [Tryd.params7] at hA hval
  obtain ⟨v0, vs0, d0, ds0, p0, q0, hargs, rfl, rfl, h0, r0⟩ := trodAll_cons hA
  obtain ⟨v1, vs1, d1, ds1, p1, q1, rfl, rfl, rfl, h1, r1⟩ := trodAll_cons r0
  obtain ⟨rfl, rfl, rfl⟩ := trodAll_nil r1
  obtain rfl : args = #[v0, v1] := by cases args; simp_all
  obtain ⟨rfl, rfl⟩ := trodVars_none hV
  obtain ⟨s0, rfl, rfl, rfl, z0⟩ := open_string Tryd.underlying9 (hval 0 9 v0 rfl rfl) h0
  obtain ⟨s1, rfl, rfl, rfl, z1⟩ := open_string Tryd.underlying9 (hval 1 9 v1 rfl rfl) h1
  clear hA0 hval0
  refine (walk s0 s1 W hN z0 z1).mono fun e W' ⟨he, bel⟩ => ?_
  subst he
  exact ⟨_, rfl, _, _, _, [], _, [], hW', trodAll_mk1 (shut_bool Tryd.underlying4 _), (trodAll_cons_mk (shut_string Tryd.underlying9 z0) (trodAll_cons_mk (shut_string Tryd.underlying9 z1) trodAll_mk0)), rfl, bel.frame _, fun h => by cases h⟩

theorem over : Rows.TextJoinsSaid :=
  OpenClaim.holds_of_wide 7 Tryd.f7 rfl rfl rfl rfl rfl rfl rfl ⟨rfl, rfl, rfl, rfl, rfl⟩ rfl rfl rfl rfl rfl (by kernel_rfl) Tryd.func7 (by kernel_rfl)
    (of_decide_eq_true (by kernel_rfl)) (by unfold Func.isWrapper; first | (rw [if_pos (by decide +kernel)]; kernel_rfl) | (rw [if_neg (by decide +kernel)]; exact ⟨rfl, rfl⟩))
    (fun os started H enc _ => lifted os started H enc)

theorem proved : Rows.TextJoinsCardSaid :=
  Claim7.holds_tied_plain_at .later [] [.data, .data, .data, .sentinel, .sentinel, .data] true (true, "335a6963d3f088ffb995e293bbf0da4bbbb660197f74018b2e2394ea562ca93f") true
    over (fun _ h => by cases h) (by kernel_rfl) (fun _ h => by cases h) textJoins_row_tie rfl ⟨rfl, rfl⟩ (by kernel_rfl) rfl
    (fun f fn hf hfn => by
      obtain rfl : f = 7 := Option.some.inj ((show Tryd.prog.funcNamed "colloquy/colloquylaw14.TextJoins" = some 7 by kernel_rfl).symm.trans hf) |>.symm
      obtain rfl : fn = Tryd.f7 := (Option.some.inj (Tryd.func7.symm.trans hfn)).symm
      exact ⟨by kernel_rfl, fun j t ht => by
        rw [Tryd.params7] at ht
        have hm : t ∈ [9, 9] := by simpa using Array.mem_of_getElem? ht
        have hall : ([9, 9].all fun u => !Tryd.prog.wantsStandIn u) = true := by kernel_rfl
        exact (show Tryd.prog.wantsStandIn t = false by simpa using List.all_eq_true.1 hall t hm)⟩)
    (by kernel_rfl)
#print axioms proved
end Go.Proofs.YtpeieagfndggbaaDoor.textJoins
