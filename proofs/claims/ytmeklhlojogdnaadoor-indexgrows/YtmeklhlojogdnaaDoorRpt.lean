/-
  The walk of the document's Put: the list is what 'pt' says. Conditions: at most 1000 that are known.
-/
import Derived.Test.YtmeklhlojogdnaaDoorNsm
import Derived.Test.YtmeklhlojogdnaaDoorEqi
import Derived.Test.YtmeklhlojogdnaaDoorWf
namespace Go.Proofs.YtmeklhlojogdnaaDoor
open Go.RowKit
set_option linter.unusedVariables false
attribute [local go_sem ↓ high] eq26 guard26 neq26 guard26n

/-- The call gave the list L: the one that came in, or one in a row of its own. -/
def RpPost (w : World) (A : Option Addr) (L : List Kn) (e : Ending) (w' : World) : Prop := ∃ A' c', e = .returned (.slice A' L.length c') ∧ Ns w' w'.heap.size A' L ∧ (A' = A ∨ ∀ b o, A' = some ⟨b, o, none⟩ → w.heap.size ≤ b ∧ b < w'.heap.size) ∧ Below w.heap.size w w'

theorem news9 (w : World) (y : Kn) : ∀ j u, (ncs [y])[j]? = some u → (w.alloc (.cells #[.int .i64 y.i.1, .int .i64 y.i.2, .int .i64 y.c.u, .int .i64 y.c.s, .int .i64 y.c.k, .int .i64 y.c.h, .int .i64 y.c.n, .string y.c.t, .int .i64 y.q] 29)).cell? (Addr.add ⟨w.heap.size, 0, none⟩ j) = some u := fun j u hu => by
  rw [Addr.add_lit]
  refine ncs_read (b := w.heap.size) [y] 0 (fun i x hx => ?_) j u hu
  match i, hx with
  | 0, hx =>
    simp at hx; subst hx
    exact nb_new w y
  | i + 1, hx => simp at hx

theorem keepR {w0 v v' : World} {B D : Nat} {i1 i2 : Int} (hB : B < D) (hS : (v.cell? ⟨B, 0, none⟩ = some (.int .i64 i1) ∧ v.cell? ⟨B, 1, none⟩ = some (.int .i64 i2)) ∧ Below D w0 v) (hb : Below D v v') :
    (v'.cell? ⟨B, 0, none⟩ = some (.int .i64 i1) ∧ v'.cell? ⟨B, 1, none⟩ = some (.int .i64 i2)) ∧ Below D w0 v' :=
  ⟨⟨(hb.cell (p := ⟨B, 0, none⟩) hB).trans hS.1.1, (hb.cell (p := ⟨B, 1, none⟩) hB).trans hS.1.2⟩, hS.2.trans hb⟩

set_option maxHeartbeats 1000000 in
theorem rput_no (n i1 i2 u s kk h m q : Int) (t : ByteArray) (A : Option Addr) (len c : Nat) (w : World) (hm : mb (i1, i2) (am n) = false) :
    Calls Tryd.prog 15 #[.slice A len c, .agg #[.int .i64 i1, .int .i64 i2, .int .i64 u, .int .i64 s, .int .i64 kk, .int .i64 h, .int .i64 m, .string t, .int .i64 q], .int .i64 n] w fun e w' => e = .returned (.slice A len c) ∧ Below w.heap.size w w' := by
  have HA : ∀ W, Hid (Calls Tryd.prog 26 #[.int .i64 n] W fun e w' => e = .returned (.int .i64 (am n)) ∧ w' = W) := fun W => bound_any n W
  have HMy : ∀ W, Hid (Calls Tryd.prog 27 #[.agg #[.int .i64 i1, .int .i64 i2], .int .i64 (am n)] W (BoolPost W false)) := fun W => by have := may27_any (i1, i2) (am n) W; rw [hm] at this; exact this
  have BW : Below w.heap.size w (w.alloc (.cells #[.int .i64 i1, .int .i64 i2, .int .i64 u, .int .i64 s, .int .i64 kk, .int .i64 h, .int .i64 m, .string t, .int .i64 q] 29)) := (Below.refl _ _).alloc (Nat.le_refl _) _
  have Z0 : (w.alloc (.cells #[.int .i64 i1, .int .i64 i2, .int .i64 u, .int .i64 s, .int .i64 kk, .int .i64 h, .int .i64 m, .string t, .int .i64 q] 29)).heap.size = w.heap.size + 1 := by simp
  have N0 := nb_new w ⟨(i1, i2), ⟨u, s, kk, h, m, t⟩, q⟩
  generalize am n = N at *
  go_enter Tryd.func15, Tryd.ntmps15
  go_wp2_with fail
  generalize (w.alloc (.cells #[.int .i64 i1, .int .i64 i2, .int .i64 u, .int .i64 s, .int .i64 kk, .int .i64 h, .int .i64 m, .string t, .int .i64 q] 29)) = W0 at *
  have zB : w.heap.size < W0.heap.size := by omega
  obtain ⟨b0, b1, b2, b3, b4, b5, b6, b7, b8⟩ := id N0
  have S0 : (W0.cell? ⟨w.heap.size, 0, none⟩ = some (.int .i64 i1) ∧ W0.cell? ⟨w.heap.size, 1, none⟩ = some (.int .i64 i2)) ∧ Below W0.heap.size W0 W0 := ⟨⟨b0, b1⟩, Below.refl _ _⟩
  have KD : Hid (∀ v, (v.cell? ⟨w.heap.size, 0, none⟩ = some (.int .i64 i1) ∧ v.cell? ⟨w.heap.size, 1, none⟩ = some (.int .i64 i2)) ∧ Below W0.heap.size W0 v → (v.drew.cell? ⟨w.heap.size, 0, none⟩ = some (.int .i64 i1) ∧ v.drew.cell? ⟨w.heap.size, 1, none⟩ = some (.int .i64 i2)) ∧ Below W0.heap.size W0 v.drew) := fun v hS => keepR zB hS ((Below.refl _ _).drew)
  have KS : Hid (∀ v v', Below v.heap.size v v' → (v.cell? ⟨w.heap.size, 0, none⟩ = some (.int .i64 i1) ∧ v.cell? ⟨w.heap.size, 1, none⟩ = some (.int .i64 i2)) ∧ Below W0.heap.size W0 v → (v'.cell? ⟨w.heap.size, 0, none⟩ = some (.int .i64 i1) ∧ v'.cell? ⟨w.heap.size, 1, none⟩ = some (.int .i64 i2)) ∧ Below W0.heap.size W0 v') := fun v v' hb hS => keepR zB hS (hb.mono hS.2.size)
  clear b0 b1 b2 b3 b4 b5 b6 b7 b8
  obtain ⟨⟨b0, b1⟩, _⟩ := id S0
  go_region_held3 (fun v => (v.cell? ⟨w.heap.size, 0, none⟩ = some (.int .i64 i1) ∧ v.cell? ⟨w.heap.size, 1, none⟩ = some (.int .i64 i2)) ∧ Below W0.heap.size W0 v)
    (first | (exact S0) | (exact KD.out _ S0) | (refine KD.out _ ?_; assumption) | assumption | (refine KS.out _ _ hb2 ?_; first | assumption | exact KD.out _ S0))
    (first | (go_at_call 26; (with_reducible refine (HA _).out.mono ?_); rintro e wa ⟨rfl, rfl⟩) | (go_at_call 27; (with_reducible refine (HMy _).out.mono ?_); rintro e wb ⟨rfl, hb2⟩))
  rename_i hSx
  have B1 := hSx.2
  clear b0 b1 S0 KD KS
  go_wp2
  go_ret
  exact ⟨rfl, BW.trans (B1.mono (by omega))⟩

set_option maxHeartbeats 4000000 in
theorem rput_yes (n i1 i2 u s kk h m q : Int) (t : ByteArray) (A : Option Addr) (c : Nat) (L : List Kn) (w : World) (hl : L.length ≤ 1000) (hs : Ns w w.heap.size A L) (hm : mb (i1, i2) (am n) = true) :
    Calls Tryd.prog 15 #[.slice A L.length c, .agg #[.int .i64 i1, .int .i64 i2, .int .i64 u, .int .i64 s, .int .i64 kk, .int .i64 h, .int .i64 m, .string t, .int .i64 q], .int .i64 n] w (RpPost w A (L.filter (fun x => decide (x.i ≠ (i1, i2))) ++ [⟨(i1, i2), ⟨u, s, kk, h, m, t⟩, q⟩])) := by
  obtain ⟨ti, hi, hz0, hz1, hz2⟩ := info_parts info29
  generalize hFL : L.filter (fun x => decide (x.i ≠ (i1, i2))) = FL
  have HFX := Lib.hid hFL
  clear hFL
  have HA : ∀ W, Hid (Calls Tryd.prog 26 #[.int .i64 n] W fun e w' => e = .returned (.int .i64 (am n)) ∧ w' = W) := fun W => bound_any n W
  have HMy : ∀ W, Hid (Calls Tryd.prog 27 #[.agg #[.int .i64 i1, .int .i64 i2], .int .i64 (am n)] W (BoolPost W true)) := fun W => by have := may27_any (i1, i2) (am n) W; rw [hm] at this; exact this
  have BW : Below w.heap.size w (w.alloc (.cells #[.int .i64 i1, .int .i64 i2, .int .i64 u, .int .i64 s, .int .i64 kk, .int .i64 h, .int .i64 m, .string t, .int .i64 q] 29)) := (Below.refl _ _).alloc (Nat.le_refl _) _
  have Z0 : (w.alloc (.cells #[.int .i64 i1, .int .i64 i2, .int .i64 u, .int .i64 s, .int .i64 kk, .int .i64 h, .int .i64 m, .string t, .int .i64 q] 29)).heap.size = w.heap.size + 1 := by simp
  have N0 := nb_new w ⟨(i1, i2), ⟨u, s, kk, h, m, t⟩, q⟩
  generalize am n = N at *
  go_enter Tryd.func15, Tryd.ntmps15
  go_wp2_with fail
  generalize (w.alloc (.cells #[.int .i64 i1, .int .i64 i2, .int .i64 u, .int .i64 s, .int .i64 kk, .int .i64 h, .int .i64 m, .string t, .int .i64 q] 29)) = W0 at *
  have zB : w.heap.size < W0.heap.size := by omega
  obtain ⟨b0, b1, b2, b3, b4, b5, b6, b7, b8⟩ := id N0
  have S0 : (W0.cell? ⟨w.heap.size, 0, none⟩ = some (.int .i64 i1) ∧ W0.cell? ⟨w.heap.size, 1, none⟩ = some (.int .i64 i2)) ∧ Below W0.heap.size W0 W0 := ⟨⟨b0, b1⟩, Below.refl _ _⟩
  have KD : Hid (∀ v, (v.cell? ⟨w.heap.size, 0, none⟩ = some (.int .i64 i1) ∧ v.cell? ⟨w.heap.size, 1, none⟩ = some (.int .i64 i2)) ∧ Below W0.heap.size W0 v → (v.drew.cell? ⟨w.heap.size, 0, none⟩ = some (.int .i64 i1) ∧ v.drew.cell? ⟨w.heap.size, 1, none⟩ = some (.int .i64 i2)) ∧ Below W0.heap.size W0 v.drew) := fun v hS => keepR zB hS ((Below.refl _ _).drew)
  have KS : Hid (∀ v v', Below v.heap.size v v' → (v.cell? ⟨w.heap.size, 0, none⟩ = some (.int .i64 i1) ∧ v.cell? ⟨w.heap.size, 1, none⟩ = some (.int .i64 i2)) ∧ Below W0.heap.size W0 v → (v'.cell? ⟨w.heap.size, 0, none⟩ = some (.int .i64 i1) ∧ v'.cell? ⟨w.heap.size, 1, none⟩ = some (.int .i64 i2)) ∧ Below W0.heap.size W0 v') := fun v v' hb hS => keepR zB hS (hb.mono hS.2.size)
  clear b0 b1 b2 b3 b4 b5 b6 b7 b8
  obtain ⟨⟨b0, b1⟩, _⟩ := id S0
  go_region_held3 (fun v => (v.cell? ⟨w.heap.size, 0, none⟩ = some (.int .i64 i1) ∧ v.cell? ⟨w.heap.size, 1, none⟩ = some (.int .i64 i2)) ∧ Below W0.heap.size W0 v)
    (first | (exact S0) | (exact KD.out _ S0) | (refine KD.out _ ?_; assumption) | assumption | (refine KS.out _ _ hb2 ?_; first | assumption | exact KD.out _ S0))
    (first | (go_at_call 26; (with_reducible refine (HA _).out.mono ?_); rintro e wa ⟨rfl, rfl⟩) | (go_at_call 27; (with_reducible refine (HMy _).out.mono ?_); rintro e wb ⟨rfl, hb2⟩))
  rename_i hSx
  have B1 := hSx.2
  clear b0 b1 S0 KD KS
  have N1 := N0.on B1 zB
  have BE := BW.trans (B1.mono (by omega))
  have zb := N1.lt
  have HS := Lib.hid hs
  clear hs N0 BW Z0 hSx
  go_wp2_with fail
  go_loopw [8, 9] (fun v tt wr => ∃ p : Nat, p ≤ L.length ∧ tt = .int .i64 (p : Int) ∧ wr.ownsRow (w.heap.size + 1) 29 9 v ((L.take p).filter (fun x => decide (x.i ≠ (i1, i2)))).length (ncs ((L.take p).filter (fun x => decide (x.i ≠ (i1, i2))))) ∧ Nb wr w.heap.size ⟨(i1, i2), ⟨u, s, kk, h, m, t⟩, q⟩ ∧ Below w.heap.size w wr) (fun _ tt _ => 1001 - (intOf tt).toNat)
  case atStart => exact ⟨0, Nat.zero_le _, rfl, World.ownsRow_nil _ _ _ _, N1, BE⟩
  case round =>
    obtain ⟨p, hp, rfl, hown, hNb, hB⟩ := hrel
    have hz := hNb.lt
    clear N1 BE zb
    by_cases hlp : p < L.length
    · have hlpi : (p : Int) < (L.length : Int) := by omega
      have hp0 : (0 : Int) ≤ (p : Int) := by omega
      rcases (HS.out.below hB (Nat.le_refl _)) with rfl | ⟨b, off, rfl, hb, hc⟩
      · simp at hlp
      have hcell := hc p L[p] (List.getElem?_eq_getElem hlp)
      have HF : Hid ((L.take (p + 1)).filter (fun x => decide (x.i ≠ (i1, i2))) = (L.take p).filter (fun x => decide (x.i ≠ (i1, i2))) ++ (if L[p].i ≠ (i1, i2) then [L[p]] else [])) := by
        show _ = _
        rw [List.take_succ_eq_append_getElem hlp, List.filter_append]
        congr 1
        by_cases hx : L[p].i = (i1, i2) <;> simp [hx]
      have hfl : ((L.take p).filter (fun x => decide (x.i ≠ (i1, i2)))).length ≤ 1000 := Nat.le_trans (List.length_filter_le _ _) (by rw [List.length_take]; omega)
      generalize L[p] = y at *
      generalize (L.take p).filter (fun x => decide (x.i ≠ (i1, i2))) = F at *
      obtain ⟨⟨y1, y2⟩, ⟨yu, ys, yk, yh, yn, yt⟩, yq⟩ := y
      have hb' : b < wr.heap.size := by have := hB.size; omega
      obtain ⟨e0, e1, e2, e3, e4, e5, e6, e7, e8⟩ := hcell
      obtain ⟨b0, b1, b2, b3, b4, b5, b6, b7, b8⟩ := id hNb
      clear hc
      have HFL := Lib.hid hfl
      clear hfl
      by_cases hsf : (y1, y2) = (i1, i2)
      · have hsb := same_yes hsf
        have HF' : Hid ((L.take (p + 1)).filter (fun x => decide (x.i ≠ (i1, i2))) = F) := by
          show _ = _
          rw [HF.out, if_neg (fun h => h hsf)]; simp
        clear HF
        go_wp2_with fail
        go_region
        go_wp2
        go_roundw
        case rel => exact ⟨p + 1, by omega, by go_num, by rw [HF'.out]; exact hown, hNb, hB.drew⟩
        case measure => simp [intOf]; omega
      · have hsb := same_no hsf
        have HF' : Hid ((L.take (p + 1)).filter (fun x => decide (x.i ≠ (i1, i2))) = F ++ [⟨(y1, y2), ⟨yu, ys, yk, yh, yn, yt⟩, yq⟩]) := by
          show _ = _
          rw [HF.out, if_pos (fun h => hsf h)]
        clear HF
        go_wp2_with fail
        go_region
        have HFLo := HFL.out
        have BA : Below wr.heap.size wr (wr.alloc (.cells #[.int .i64 y1, .int .i64 y2, .int .i64 yu, .int .i64 ys, .int .i64 yk, .int .i64 yh, .int .i64 yn, .string yt, .int .i64 yq] 29)).drew := ((Below.refl _ _).alloc (Nat.le_refl _) _).drew
        have OA : (wr.alloc (.cells #[.int .i64 y1, .int .i64 y2, .int .i64 yu, .int .i64 ys, .int .i64 yk, .int .i64 yh, .int .i64 yn, .string yt, .int .i64 yq] 29)).drew.ownsRow (w.heap.size + 1) 29 9 u8 F.length (ncs F) := hown.alloc _
        go_wp2_with (at_builtin; refine wpList_append_own _ rfl (.tmp 32) (.tmp 37) 22 rfl (w.heap.size + 1) 29 ti (.agg #[.int .i64 0, .int .i64 0, .int .i64 0, .int .i64 0, .int .i64 0, .int .i64 0, .int .i64 0, .string ⟨#[]⟩, .int .i64 0]) 9 80 Tryd.underlying22 hi hz0 hz1 hz2 rfl (by decide) _ F.length (ncs F) rfl OA ⟨wr.heap.size, 0, none⟩ 1 1 (ncs [⟨(y1, y2), ⟨yu, ys, yk, yh, yn, yt⟩, yq⟩]) rfl rfl (news9 wr ⟨(y1, y2), ⟨yu, ys, yk, yh, yn, yt⟩, yq⟩) (ncs_one _) (by unfold maxLen; omega) (by omega) (by have := BA.size; omega) ?_; intro v3 w3 hown3 hgrow3 _)
        have B3 : Below (w.heap.size + 1) wr w3 := (BA.mono (by omega)).grown hgrow3 (by have := BA.size; omega) (fun g hg => (hown.lt g hg).1)
        have N3 := hNb.on B3 (by omega)
        have B3' := hB.trans (B3.mono (by omega))
        have O3 : w3.ownsRow (w.heap.size + 1) 29 9 v3 (F ++ [(⟨(y1, y2), ⟨yu, ys, yk, yh, yn, yt⟩, yq⟩ : Kn)]).length (ncs (F ++ [(⟨(y1, y2), ⟨yu, ys, yk, yh, yn, yt⟩, yq⟩ : Kn)])) := by
          rw [List.length_append, ncs_append]; exact hown3
        clear hown3 hgrow3 e0 e1 e2 e3 e4 e5 e6 e7 e8 b0 b1 b2 b3 b4 b5 b6 b7 b8 BA
        go_roundw
        case rel => exact ⟨p + 1, by omega, by go_num, by rw [HF'.out]; exact O3, N3, B3'⟩
        case measure => simp [intOf]; omega
    · obtain rfl : p = L.length := by omega
      rw [List.take_length] at hown
      have hfl : (L.filter (fun x => decide (x.i ≠ (i1, i2)))).length ≤ 1000 := Nat.le_trans (List.length_filter_le _ _) hl
      rw [HFX.out] at hown hfl
      clear HFX
      generalize FL = F at *
      obtain ⟨b0, b1, b2, b3, b4, b5, b6, b7, b8⟩ := id hNb
      have BA : Below wr.heap.size wr (wr.alloc (.cells #[.int .i64 i1, .int .i64 i2, .int .i64 u, .int .i64 s, .int .i64 kk, .int .i64 h, .int .i64 m, .string t, .int .i64 q] 29)) := (Below.refl _ _).alloc (Nat.le_refl _) _
      go_wp2_with (at_builtin; refine wpList_append_own _ rfl (.tmp 39) (.tmp 41) 22 rfl (w.heap.size + 1) 29 ti (.agg #[.int .i64 0, .int .i64 0, .int .i64 0, .int .i64 0, .int .i64 0, .int .i64 0, .int .i64 0, .string ⟨#[]⟩, .int .i64 0]) 9 80 Tryd.underlying22 hi hz0 hz1 hz2 rfl (by decide) _ F.length (ncs F) rfl (hown.alloc _) ⟨wr.heap.size, 0, none⟩ 1 1 (ncs [⟨(i1, i2), ⟨u, s, kk, h, m, t⟩, q⟩]) rfl rfl (news9 wr ⟨(i1, i2), ⟨u, s, kk, h, m, t⟩, q⟩) (ncs_one _) (by unfold maxLen; omega) (by omega) (by have := BA.size; omega) ?_; intro v3 w3 hown3 hgrow3 _)
      have B3 : Below (w.heap.size + 1) wr w3 := (BA.mono (by omega)).grown hgrow3 (by have := BA.size; omega) (fun g hg => (hown.lt g hg).1)
      have B3' := hB.trans (B3.mono (by omega))
      have O3 : w3.ownsRow (w.heap.size + 1) 29 9 v3 (F ++ [(⟨(i1, i2), ⟨u, s, kk, h, m, t⟩, q⟩ : Kn)]).length (ncs (F ++ [(⟨(i1, i2), ⟨u, s, kk, h, m, t⟩, q⟩ : Kn)])) := by
        rw [List.length_append, ncs_append]; exact hown3
      obtain ⟨A', c', hv, hns, hbs⟩ := own_ns O3
      subst hv
      clear hown3 hgrow3 O3
      go_ret
      refine ⟨A', c', rfl, hns, .inr (fun b o e => ?_), B3'⟩
      have h1 := hbs b o e
      rcases hns with h | ⟨b', o', e', hlt, _⟩
      · simp at h
      · rw [e'] at e
        cases e
        exact ⟨by omega, hlt⟩

theorem rput_any (n : Int) (L : List Kn) (A : Option Addr) (c : Nat) (k : Kn) (w : World) (hl : L.length ≤ 1000) (hs : Ns w w.heap.size A L) :
    Calls Tryd.prog 15 #[.slice A L.length c, .agg #[.int .i64 k.i.1, .int .i64 k.i.2, .int .i64 k.c.u, .int .i64 k.c.s, .int .i64 k.c.k, .int .i64 k.c.h, .int .i64 k.c.n, .string k.c.t, .int .i64 k.q], .int .i64 n] w (RpPost w A (pt (am n) L k)) := by
  obtain ⟨⟨i1, i2⟩, ⟨u, s, kk, h, m, t⟩, q⟩ := k
  rcases hb : mb (i1, i2) (am n) with _ | _
  · rw [pt_no hb]
    exact (rput_no n i1 i2 u s kk h m q t A L.length c w hb).mono fun e w' ⟨he, hbel⟩ => ⟨A, c, he, hs.up hbel, .inl rfl, hbel⟩
  · rw [pt_yes hb]
    exact rput_yes n i1 i2 u s kk h m q t A c L w hl hs hb

end Go.Proofs.YtmeklhlojogdnaaDoor
