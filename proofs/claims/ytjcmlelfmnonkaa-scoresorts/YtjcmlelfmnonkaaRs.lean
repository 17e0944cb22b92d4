/-
  The walks of the document's Sort and Same: the first answers all there was, in order, those that are just as great as they stood; the second, at two slices that read alike, true. Conditions: at most 60 numbers.
-/
import Derived.Test.YtjcmlelfmnonkaaSo
import Derived.Deep.QuietTactic
namespace Go.Proofs.Ytjcmlelfmnonkaa
open Go.RowKit Go.Proofs.Ytjcmlelfmnonkaa.Fl
set_option linter.unusedVariables false
set_option maxRecDepth 100000

def BPost (w : World) (e : Ending) (w' : World) : Prop := e = .returned (.bool true) ∧ Below w.heap.size w w'
set_option maxHeartbeats 400000 in
theorem same_any (A A' : Option Addr) (c c' : Nat) (xs : List Nat) (w : World) (hl : xs.length ≤ 60) (hs : Sl w w.heap.size .u64 A (zs xs)) (hs' : Sl w w.heap.size .u64 A' (zs xs)) :
    Hid (Calls Try.prog 19 #[.slice A xs.length c, .slice A' xs.length c'] w (BPost w)) := by
  refine Lib.hid ?_
  have HS := Lib.hid hs
  have HS' := Lib.hid hs'
  clear hs hs'
  go_enter Try.func19, Try.ntmps19
  go_wp2
  go_loopw [5] (fun i wr => ∃ k : Nat, k ≤ xs.length ∧ i = .int .i64 (k : Int) ∧ Hid (Below w.heap.size w wr)) (fun i _ => xs.length - (intOf i).toNat)
  case atStart => exact ⟨0, by omega, rfl, Lib.hid (Below.refl _ _)⟩
  case round =>
    obtain ⟨k, hk, rfl, hbel⟩ := hrel
    by_cases hlt : k < xs.length
    · obtain ⟨b, off, rfl, hb, hcell⟩ := (HS.out.below hbel.out).at_ (j := k) (by rw [zs_len]; exact hlt)
      obtain ⟨b', off', rfl, hb', hcell'⟩ := (HS'.out.below hbel.out).at_ (j := k) (by rw [zs_len]; exact hlt)
      generalize (zs xs).getD k 0 = x at hcell hcell'
      have HQ : ∀ q, Hid (Below w.heap.size w (wr.drewN q)) := fun q => Lib.hid (below_q hbel.out q)
      go_wp2
      go_quiet (fail)
      go_wp2
      go_roundw
      case rel => exact ⟨k + 1, by omega, by go_num, HQ nq⟩
      case measure => simp [intOf]; omega
    · go_wp2
      go_ret
      exact ⟨rfl, hbel.out⟩

/-- One number, just laid. -/
theorem one_sl (w : World) (x : Nat) (fr : Nat × Nat := (0, 0)) : Sl (w.alloc (.cells #[.int .u64 (x : Int)] 23 fr)) (w.heap.size + 1) .u64 (some ⟨w.heap.size, 0, none⟩) [(x : Int)] := .inr ⟨w.heap.size, 0, rfl, by omega, fun j y hy => by
  match j, hy with
  | 0, hy =>
    rw [List.getElem?_cons_zero] at hy
    cases hy
    rw [Nat.zero_add, World.cell?_alloc_mark]
    rfl⟩
theorem row_new {w : World} {B : Nat} {v : Value} {ys ts : List Int} {x n : Nat} {out2 : List Nat} (h : w.ownsRow B 23 1 v n ((ys.map (Value.int .u64) ++ [(x : Int)].map (Value.int .u64)) ++ ts.map (Value.int .u64))) (hn : n = ys.length + 1 + ts.length) (e : ys ++ [(x : Int)] ++ ts = zs out2) :
    ∃ A c, v = .slice A out2.length c ∧ out2.length ≤ c ∧ Sl w w.heap.size .u64 A (zs out2) := by
  have hl : n = (zs out2).length := by rw [← e, hn]; simp; omega
  rw [← List.map_append, ← List.map_append, e, hl] at h
  obtain ⟨A, c, h1, h2, h3⟩ := own_slice h
  rw [zs_len] at h1 h3
  exact ⟨A, c, h1, h3, h2⟩
set_option maxHeartbeats 2000000 in
theorem rsort_any (A : Option Addr) (c : Nat) (l : List Nat) (hl : l.length ≤ 60) (hx : ∀ x ∈ l, x < 18446744073709551616) (w : World) (hs : Sl w w.heap.size .u64 A (zs l)) :
    Hid (Calls Try.prog 21 #[.slice A l.length c] w (SoPost w l)) := by
  refine Lib.hid ?_
  have HS0 := Lib.hid hs
  have HXL := Lib.hid hx
  obtain ⟨i0, hi0, hz0, hz1, hz2⟩ := info23
  clear hs hx
  go_enter Try.func21, Try.ntmps21
  go_wp2
  go_loopw [3, 4, 5, 6] (fun v3 v4 v5 v6 wr => ∃ (i : Nat) (out : List Nat) (A3 : Option Addr) (c3 : Nat) (y5 y6 : Value), v3 = .slice A3 out.length c3 ∧ v4 = .int .i64 (i : Int) ∧ v5 = y5 ∧ v6 = y6 ∧ i ≤ l.length ∧ out.length = i ∧ out.length ≤ c3 ∧ Hid (Sd (l.take i) out) ∧ Hid (∀ x ∈ out, x < 18446744073709551616) ∧ Hid (Sl wr wr.heap.size .u64 A3 (zs out)) ∧ Hid (Below w.heap.size w wr)) (fun _ v4 _ _ _ => 61 - (intOf v4).toNat)
  case atStart => exact ⟨0, [], none, 0, _, _, rfl, rfl, rfl, rfl, by omega, rfl, by simp, Lib.hid (by rw [List.take_zero]; exact sd_nil), Lib.hid (fun x h => by cases h), Lib.hid Sl.nil, Lib.hid (Below.refl _ _)⟩
  case round =>
    obtain ⟨i, out, A3, c3, y5, y6, rfl, rfl, rfl, rfl, hi, hlen, hc3, HSD, HXO, HSL, HB⟩ := hrel
    by_cases hlt : i < l.length
    · obtain ⟨b, off, rfl, hb, hcell⟩ := (HS0.out.below HB.out).at_ (j := i) (by rw [zs_len]; exact hlt)
      rw [zs_get hlt] at hcell
      have HX : Hid (l[i] < 18446744073709551616) := Lib.hid (HXL.out _ (List.getElem_mem _))
      have HT : Hid (l.take (i + 1) = l.take i ++ [l[i]]) := Lib.hid (List.take_succ_eq_append_getElem hlt)
      generalize l[i] = x at *
      have hbs := HB.out.size
      go_wp2
      rename World => W1
      go_loopw [5] (fun v5 wr2 => ∃ k : Nat, v5 = .int .i64 (k : Int) ∧ k ≤ i ∧ Hid (Below W1.heap.size W1 wr2) ∧ Hid (∀ j, (hj : j < out.length) → k ≤ j → rank x < rank out[j])) (fun v5 _ => (intOf v5).toNat)
      case atStart => exact ⟨i, rfl, Nat.le_refl _, Lib.hid (Below.refl _ _), Lib.hid (fun j hj h => by omega)⟩
      case round =>
        obtain ⟨k, rfl, hk, HB2, HU⟩ := hrel
        rename World => W2
        have hcell2 : W2.cell? ⟨b, off + i, none⟩ = some (.int .u64 (x : Int)) := (HB2.out.cell (p := ⟨b, off + i, none⟩) (by show b < W1.heap.size; omega)).trans hcell
        by_cases hk0 : 0 < k
        · obtain ⟨b3, off3, rfl, hb3, hcell3⟩ := (HSL.out.below HB2.out).at_ (j := k - 1) (by rw [zs_len]; omega)
          rw [zs_get (by omega : k - 1 < out.length)] at hcell3
          have HXK : Hid (out[k - 1] < 18446744073709551616) := Lib.hid (HXO.out _ (List.getElem_mem _))
          have HC : ∀ V, Hid (Calls Try.prog 23 #[.int .u64 (x : Int), .int .u64 (out[k - 1] : Int)] V fun e w1 => e = .returned (.int .i64 (cmp x out[k - 1])) ∧ w1 = V) := fun V => rcmp_any x out[k - 1] HX.out HXK.out V
          have hk1 : ((k - 1 : Nat) : Int) = (k : Int) - 1 := by omega
          have hk0' : decide ((0 : Int) < (k : Int)) = true := decide_eq_true (by omega)
          have hcd : cmp x out[k - 1] < 0 ↔ rank x < rank out[k - 1] := by
            unfold cmp
            by_cases h : rank x < rank out[k - 1]
            · rw [if_pos h]; simp [h]
            · rw [if_neg h]; split <;> simp [h]
          have HQ : ∀ q, Hid (Below W1.heap.size W1 (W2.drewN q)) := fun q => Lib.hid (below_q HB2.out q)
          by_cases hr : rank x < rank out[k - 1]
          · have HU2 : Hid (∀ j, (hj : j < out.length) → k - 1 ≤ j → rank x < rank out[j]) := Lib.hid (fun j hj h => by
              rcases Nat.eq_or_lt_of_le h with e | e
              · subst e; exact hr
              · exact HU.out j hj (by omega))
            have hcb : decide (cmp x out[k - 1] < 0) = true := decide_eq_true (hcd.2 hr)
            clear hcd hr
            generalize cmp x out[k - 1] = C at *
            generalize out[k - 1] = y at *
            go_wp2
            go_quiet (((first | (go_at_call 23; with_reducible refine Calls.quiet_of_same (HC _).out))))
            go_wp2
            go_roundw
            case rel => exact ⟨k - 1, by congr 1; omega, by omega, HQ nq, HU2⟩
            case measure => simp [intOf]; omega
          · have HLO : Hid (∀ (hp : 0 < k) (h : k - 1 < out.length), rank (out[k - 1]'h) ≤ rank x) := Lib.hid (fun _ _ => Nat.le_of_not_lt hr)
            have hcb : decide (cmp x out[k - 1] < 0) = false := decide_eq_false (fun h => hr (hcd.1 h))
            clear hcd hr
            generalize cmp x out[k - 1] = C at *
            generalize out[k - 1] = y at hcell3 HC HXK
            have HSO : Hid (out.length = i) := Lib.hid hlen
            go_wp2
            go_quiet (((first | (go_at_call 23; with_reducible refine Calls.quiet_of_same (HC _).out))))
            clear hcell3 HC
            generalize (some (⟨b3, off3, none⟩ : Addr)) = A3 at *
            generalize hW3 : W2.drewN nq = W3 at *
            have HB3 : Hid (Below W1.heap.size W1 W3) := by rw [← hW3]; exact HQ nq
            clear hW3 HQ hk0 hk0'
            have hcell3' : W3.cell? ⟨b, off + i, none⟩ = some (.int .u64 (x : Int)) := (HB3.out.cell (p := ⟨b, off + i, none⟩) (by show b < W1.heap.size; omega)).trans hcell
            obtain ⟨A3', hA3⟩ : ∃ A3' : Option Addr, A3' = A3 := ⟨_, rfl⟩
            have HA : Hid (Sl W3 W3.heap.size .u64 A3' (zs out)) := Lib.hid (by rw [hA3]; exact (HSL.out.below HB3.out).mono HB3.out.size)
            have sl1 := HA.out.take k
            obtain ⟨A2, f2, f2', sl2⟩ := tail_run HA.out c3 k (k : Int) rfl (by rw [zs_len]; omega) (by rw [zs_len]; omega)
            rw [zs_len] at f2 f2'
            rw [hA3] at f2 f2' sl1
            rw [zs_take] at sl1
            rw [zs_drop] at sl2
            obtain ⟨ys, hys⟩ : ∃ ys, ys = zs (out.take k) := ⟨_, rfl⟩
            obtain ⟨ts, hts⟩ : ∃ ts, ts = zs (out.drop k) := ⟨_, rfl⟩
            have hyl : ys.length = k := by rw [hys, zs_len, List.length_take]; omega
            have htl : out.length - k = ts.length := by rw [hts, zs_len, List.length_drop]
            rw [← hys] at sl1
            rw [← hts] at sl2
            rw [htl, hlen] at f2 f2'
            have HY1 := Lib.hid sl1
            have HT1 := Lib.hid sl2
            have HNEW : Hid (ys ++ [(x : Int)] ++ ts = zs (out.take k ++ x :: out.drop k)) := Lib.hid (by rw [hys, hts, zs_append]; simp [zs])
            have HST : Hid (Sd (l.take (i + 1)) (out.take k ++ x :: out.drop k)) := Lib.hid (by rw [HT.out]; exact sd_step HSD.out (by omega) (fun hp => HLO.out hp _) HU.out)
            have HXN : Hid (∀ z ∈ out.take k ++ x :: out.drop k, z < 18446744073709551616) := Lib.hid (fun z hz => by
              rcases List.mem_append.1 hz with h | h
              · exact HXO.out z (List.mem_of_mem_take h)
              · rcases List.mem_cons.1 h with h | h
                · rw [h]; exact HX.out
                · exact HXO.out z (List.mem_of_mem_drop h))
            have hnl : (out.take k ++ x :: out.drop k).length = i + 1 := by rw [List.length_append, List.length_take, List.length_cons, List.length_drop]; omega
            have hsum : ys.length + 1 + ts.length = i + 1 := by omega
            have hts60 : ts.length ≤ 60 := by omega
            have hW31 := HB3.out.size
            generalize out.take k ++ x :: out.drop k = out2 at *
            clear hys hts sl1 sl2 htl hA3 HLO HU HSD HT
            subst hyl
            go_wp2_with (first
              | (at_builtin; refine wpList_app rfl (.const (.slice none 0 0)) (.tmp 34) 27 rfl W3.heap.size 23 i0 (.int .u64 0) 8 Try.underlying27 hi0 hz0 hz1 hz2 rfl (.slice none 0 0) 0 [] rfl (World.ownsRow_nil _ _ _ _) W3.heap.size .u64 A3 _ ys rfl HY1.out (by unfold maxLen; omega) (by omega) (Nat.le_refl _) ?_; intro va wa owna growa; simp only [Nat.zero_add, List.nil_append] at owna; have ba : Below W3.heap.size W3 wa := (Below.refl _ _).grown growa (Nat.le_refl _) (by simp [Value.ownBlock]); have basz := ba.size; have cella := (ba.cell (p := ⟨b, off + i, none⟩) (by show b < W3.heap.size; omega)).trans hcell3')
              | (at_builtin; refine wpList_app rfl (.tmp 36) (.tmp 41) 27 rfl W3.heap.size 23 i0 (.int .u64 0) 8 Try.underlying27 hi0 hz0 hz1 hz2 rfl va ys.length (ys.map (Value.int .u64)) rfl (owna.alloc _) (wa.heap.size + 1) .u64 (some ⟨wa.heap.size, 0, none⟩) 1 [(x : Int)] rfl (one_sl wa x) (by unfold maxLen; show ys.length + 1 ≤ _; omega) (by show (ys.length + 1) * 8 ≤ _; omega) (by simp; omega) ?_; intro vb wb ownb growb; have bb : Below W3.heap.size W3 wb := (ba.alloc (by omega) _).grown growb (by simp; omega) (fun k hk => (owna.lt k hk).1); have bbsz := bb.size)
              | (at_builtin; refine wpList_app rfl (.tmp 43) (.tmp 46) 27 rfl W3.heap.size 23 i0 (.int .u64 0) 8 Try.underlying27 hi0 hz0 hz1 hz2 rfl vb (ys.length + 1) (ys.map (Value.int .u64) ++ [(x : Int)].map (Value.int .u64)) rfl ownb W3.heap.size .u64 A2 _ ts rfl (HT1.out.below bb) (by unfold maxLen; omega) (by omega) (by omega) ?_; intro vc wc ownc growc; have bc : Below W3.heap.size W3 wc := bb.grown growc (by omega) (fun k hk => (ownb.lt k hk).1); have bcsz := bc.size; obtain ⟨A7, c7, hv7, hc7, hs7⟩ := row_new ownc rfl HNEW.out; subst hv7))
            have HB7 : Hid (Below w.heap.size w wc) := Lib.hid ((HB.out.trans (HB3.out.mono hbs)).trans (bc.mono (by omega)))
            go_roundw
            case rel => exact ⟨i + 1, out2, A7, c7, _, _, by rw [hnl], by go_num, rfl, rfl, by omega, hnl, hc7, HST, HXN, Lib.hid hs7, HB7⟩
            case measure => simp [intOf]; omega
        · have HLO : Hid (∀ (hp : 0 < k) (h : k - 1 < out.length), rank (out[k - 1]'h) ≤ rank x) := Lib.hid (fun h _ => absurd h hk0)
          have hk0' : decide ((0 : Int) < (k : Int)) = false := decide_eq_false (by omega)
          have HQ : ∀ q, Hid (Below W1.heap.size W1 (W2.drewN q)) := fun q => Lib.hid (below_q HB2.out q)
          have HSO : Hid (out.length = i) := Lib.hid hlen
          go_wp2
          go_quiet (fail)
          generalize hW3 : W2.drewN nq = W3 at *
          have HB3 : Hid (Below W1.heap.size W1 W3) := by rw [← hW3]; exact HQ nq
          clear hW3 HQ hk0 hk0'
          have hcell3' : W3.cell? ⟨b, off + i, none⟩ = some (.int .u64 (x : Int)) := (HB3.out.cell (p := ⟨b, off + i, none⟩) (by show b < W1.heap.size; omega)).trans hcell
          obtain ⟨A3', hA3⟩ : ∃ A3' : Option Addr, A3' = A3 := ⟨_, rfl⟩
          have HA : Hid (Sl W3 W3.heap.size .u64 A3' (zs out)) := Lib.hid (by rw [hA3]; exact (HSL.out.below HB3.out).mono HB3.out.size)
          have sl1 := HA.out.take k
          obtain ⟨A2, f2, f2', sl2⟩ := tail_run HA.out c3 k (k : Int) rfl (by rw [zs_len]; omega) (by rw [zs_len]; omega)
          rw [zs_len] at f2 f2'
          rw [hA3] at f2 f2' sl1
          rw [zs_take] at sl1
          rw [zs_drop] at sl2
          obtain ⟨ys, hys⟩ : ∃ ys, ys = zs (out.take k) := ⟨_, rfl⟩
          obtain ⟨ts, hts⟩ : ∃ ts, ts = zs (out.drop k) := ⟨_, rfl⟩
          have hyl : ys.length = k := by rw [hys, zs_len, List.length_take]; omega
          have htl : out.length - k = ts.length := by rw [hts, zs_len, List.length_drop]
          rw [← hys] at sl1
          rw [← hts] at sl2
          rw [htl, hlen] at f2 f2'
          have HY1 := Lib.hid sl1
          have HT1 := Lib.hid sl2
          have HNEW : Hid (ys ++ [(x : Int)] ++ ts = zs (out.take k ++ x :: out.drop k)) := Lib.hid (by rw [hys, hts, zs_append]; simp [zs])
          have HST : Hid (Sd (l.take (i + 1)) (out.take k ++ x :: out.drop k)) := Lib.hid (by rw [HT.out]; exact sd_step HSD.out (by omega) (fun hp => HLO.out hp _) HU.out)
          have HXN : Hid (∀ z ∈ out.take k ++ x :: out.drop k, z < 18446744073709551616) := Lib.hid (fun z hz => by
            rcases List.mem_append.1 hz with h | h
            · exact HXO.out z (List.mem_of_mem_take h)
            · rcases List.mem_cons.1 h with h | h
              · rw [h]; exact HX.out
              · exact HXO.out z (List.mem_of_mem_drop h))
          have hnl : (out.take k ++ x :: out.drop k).length = i + 1 := by rw [List.length_append, List.length_take, List.length_cons, List.length_drop]; omega
          have hsum : ys.length + 1 + ts.length = i + 1 := by omega
          have hts60 : ts.length ≤ 60 := by omega
          have hW31 := HB3.out.size
          generalize out.take k ++ x :: out.drop k = out2 at *
          clear hys hts sl1 sl2 htl hA3 HLO HU HSD HT
          subst hyl
          go_wp2_with (first
            | (at_builtin; refine wpList_app rfl (.const (.slice none 0 0)) (.tmp 34) 27 rfl W3.heap.size 23 i0 (.int .u64 0) 8 Try.underlying27 hi0 hz0 hz1 hz2 rfl (.slice none 0 0) 0 [] rfl (World.ownsRow_nil _ _ _ _) W3.heap.size .u64 A3 _ ys rfl HY1.out (by unfold maxLen; omega) (by omega) (Nat.le_refl _) ?_; intro va wa owna growa; simp only [Nat.zero_add, List.nil_append] at owna; have ba : Below W3.heap.size W3 wa := (Below.refl _ _).grown growa (Nat.le_refl _) (by simp [Value.ownBlock]); have basz := ba.size; have cella := (ba.cell (p := ⟨b, off + i, none⟩) (by show b < W3.heap.size; omega)).trans hcell3')
            | (at_builtin; refine wpList_app rfl (.tmp 36) (.tmp 41) 27 rfl W3.heap.size 23 i0 (.int .u64 0) 8 Try.underlying27 hi0 hz0 hz1 hz2 rfl va ys.length (ys.map (Value.int .u64)) rfl (owna.alloc _) (wa.heap.size + 1) .u64 (some ⟨wa.heap.size, 0, none⟩) 1 [(x : Int)] rfl (one_sl wa x) (by unfold maxLen; show ys.length + 1 ≤ _; omega) (by show (ys.length + 1) * 8 ≤ _; omega) (by simp; omega) ?_; intro vb wb ownb growb; have bb : Below W3.heap.size W3 wb := (ba.alloc (by omega) _).grown growb (by simp; omega) (fun k hk => (owna.lt k hk).1); have bbsz := bb.size)
            | (at_builtin; refine wpList_app rfl (.tmp 43) (.tmp 46) 27 rfl W3.heap.size 23 i0 (.int .u64 0) 8 Try.underlying27 hi0 hz0 hz1 hz2 rfl vb (ys.length + 1) (ys.map (Value.int .u64) ++ [(x : Int)].map (Value.int .u64)) rfl ownb W3.heap.size .u64 A2 _ ts rfl (HT1.out.below bb) (by unfold maxLen; omega) (by omega) (by omega) ?_; intro vc wc ownc growc; have bc : Below W3.heap.size W3 wc := bb.grown growc (by omega) (fun k hk => (ownb.lt k hk).1); have bcsz := bc.size; obtain ⟨A7, c7, hv7, hc7, hs7⟩ := row_new ownc rfl HNEW.out; subst hv7))
          have HB7 : Hid (Below w.heap.size w wc) := Lib.hid ((HB.out.trans (HB3.out.mono hbs)).trans (bc.mono (by omega)))
          go_roundw
          case rel => exact ⟨i + 1, out2, A7, c7, _, _, by rw [hnl], by go_num, rfl, rfl, by omega, hnl, hc7, HST, HXN, Lib.hid hs7, HB7⟩
          case measure => simp [intOf]; omega
    · have hii : i = l.length := by omega
      go_wp2
      go_ret
      exact ⟨A3, c3, out, rfl, by have := HSD.out; rwa [hii, List.take_length] at this, HXO.out, by rw [hlen, hii], hc3, HSL.out, HB.out⟩
end Go.Proofs.Ytjcmlelfmnonkaa
