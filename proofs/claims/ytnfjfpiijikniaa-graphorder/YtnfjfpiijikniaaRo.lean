/-
  The walk of the document's own Components. Conditions: at most 1000 edges.
-/
import Derived.Test.YtnfjfpiijikniaaAw
import Derived.Deep.AppendLies
import Derived.Maps.OwnIn
namespace Go.Proofs.Ytnfjfpiijikniaa.Gp
open Go.RowKit Go.Shelf
set_option linter.unusedVariables false

/-- Rows of bools, a row of them. -/
def Rw (W : World) (base : Nat) (v : Value) (k m : Nat) (F : Nat → Nat → Bool) : Prop := ∃ hs : List Value, W.ownsRow base 38 1 v k hs ∧ ∀ i, i < k → ∃ r, hs[i]? = some (.slice (some ⟨r, 0, none⟩) m m) ∧ Br W r (F i) m
theorem Rw.up {w w' : World} {base k m : Nat} {v : Value} {F : Nat → Nat → Bool} (h : Rw w base v k m F) (hb : Below w.heap.size w w') : Rw w' base v k m F := by
  obtain ⟨hs, h1, h2⟩ := h
  exact ⟨hs, own_same h1 fun g hg => hb.block g (h1.lt g hg).2, fun i hi => by obtain ⟨r, k1, k2⟩ := h2 i hi; exact ⟨r, k1, Tb.on k2 hb (Tb.lt k2)⟩⟩
/-- A row more. -/
theorem rw_more {w w' : World} {base g c k m s : Nat} {v : Value} {hs : List Value} {F : Nat → Nat → Bool} (h1 : w.ownsRow base 38 1 v k hs) (h2 : ∀ i, i < k → ∃ r, hs[i]? = some (.slice (some ⟨r, 0, none⟩) m m) ∧ Br w r (F i) m) (hs2 : Br w s (F k) m) (hg : w.grownBy w' v.ownBlock)
    (ho : w'.ownsRow base 38 1 (.slice (some ⟨g, 0, none⟩) (k + 1) c) (k + 1) (hs ++ [.slice (some ⟨s, 0, none⟩) m m])) : Rw w' base (.slice (some ⟨g, 0, none⟩) (k + 1) c) (k + 1) m F := by
  have hl : hs.length = k := by have := h1.1; omega
  have hup : ∀ r f, Br w r f m → Br w' r f m := fun r f h => Tb.same h (hg.block r (Tb.lt h) (own_tag h1 (show w.heap[r]? = some (.cells (tab (fun j => .bool (f j)) m) 4 (0, 0)) from h) (by decide)))
  refine ⟨_, ho, fun i hi => ?_⟩
  rcases Nat.lt_or_ge i k with h | h
  · obtain ⟨r, k1, k2⟩ := h2 i h
    exact ⟨r, by rw [List.getElem?_append_left (by omega)]; exact k1, hup r _ k2⟩
  · obtain rfl : i = k := by omega
    exact ⟨s, by rw [List.getElem?_append_right (by omega), hl, Nat.sub_self]; rfl, hup s _ hs2⟩
/-- The rows' cells, as long as what lay below stays. -/
theorem Rw.cells {W1 : World} {base m : Nat} {v : Value} {F : Nat → Nat → Bool} (h : Rw W1 base v m m F) (hm : 0 < m) : ∃ gf cf, ∃ R : Nat → Nat, v = .slice (some ⟨gf, 0, none⟩) m cf ∧ ∀ W, Below W1.heap.size W1 W → ∀ i j, i < m → j < m → W.cell? ⟨gf, i, none⟩ = some (.slice (some ⟨R i, 0, none⟩) m m) ∧ W.cell? ⟨R i, j, none⟩ = some (.bool (F i j)) := by
  obtain ⟨hs, h1, h2⟩ := h
  rcases id h1.2 with ⟨rfl, h0⟩ | ⟨g, cap, cur, rfl, _⟩
  · omega
  · have hR : ∀ i, ∃ r, i < m → hs[i]? = some (.slice (some ⟨r, 0, none⟩) m m) ∧ Br W1 r (F i) m := fun i => by
      by_cases hi : i < m
      · obtain ⟨r, hr⟩ := h2 i hi
        exact ⟨r, fun _ => hr⟩
      · exact ⟨0, fun h => absurd h hi⟩
    obtain ⟨R, hR⟩ := Classical.axiomOfChoice hR
    refine ⟨g, cap, R, rfl, fun W hW i j hi hj => ?_⟩
    obtain ⟨k1, k2⟩ := hR i hi
    exact ⟨(World.cell?_of_block (a := ⟨g, i, none⟩) (hW.block g (h1.lt g rfl).2)).trans (own_cell h1 k1), (Tb.on k2 hW (Tb.lt k2)).cell hj⟩

theorem fr_rb {n : Int} {l : List (Int × Int)} {i x : Nat} (hi : i < am n) : fr n l (i : Int) x = rb (Ed (am n) l) i x := by
  unfold fr
  rw [decide_eq_true (by omega), Bool.true_and]
  rfl
/-- What the search finds free. -/
theorem free_fr {E : Nat → Nat → Prop} {m : Nat} {told : Nat → Bool} {i : Nat} (h : ∀ y, y < m → (rb E i y && !rb E y i && !told y) = false) : Fr E m (fun x => told x = true) i := fun j hj r => by
  have := h j hj
  rw [rb_iff.2 r] at this
  rcases hb : rb E j i with _ | _
  · rw [hb] at this
    rcases ht : told j with _ | _
    · rw [ht] at this; cases this
    · exact .inr ht
  · exact .inl (rb_iff.1 hb)
theorem fr_free {E : Nat → Nat → Prop} {m : Nat} {told : Nat → Bool} {i : Nat} (h : Fr E m (fun x => told x = true) i) : ∀ y, y < m → (rb E i y && !rb E y i && !told y) = false := fun y hy => by
  rcases hb : rb E i y with _ | _
  · rfl
  · rcases h y hy (rb_iff.1 hb) with k | k
    · rw [rb_iff.2 k]; rfl
    · rw [show told y = true from k]; simp
/-- The first of a component. -/
noncomputable def cpre (E : Nat → Nat → Prop) (k j : Nat) : List Nat := (List.range j).filter fun x => rb E k x && rb E x k
theorem cpre_len (E : Nat → Nat → Prop) (k j : Nat) : (cpre E k j).length ≤ j := by
  have := List.length_filter_le (fun x => rb E k x && rb E x k) (List.range j)
  simpa [cpre] using this
theorem cpre_succ (E : Nat → Nat → Prop) (k j : Nat) : cpre E k (j + 1) = cpre E k j ++ if (rb E k j && rb E j k) = true then [j] else [] := by
  unfold cpre
  rw [List.range_succ, List.filter_append]
  congr 1
  simp [List.filter_cons]
theorem cpre_all (E : Nat → Nat → Prop) (k m : Nat) : cpre E k m = cmp E m k := rfl
theorem told_less {E : Nat → Nat → Prop} {m k : Nat} {told : Nat → Bool} (hk : k < m) (ht : told k = false) : uns m (fun x => told x || decide (x ∈ cmp E m k)) < uns m told :=
  countP_lt (a := k) (fun x _ hx => by simp at hx ⊢; exact hx.1) (by simpa using hk) (by simp [ht]) (by simp [cmp_self hk])
theorem sf_told {E : Nat → Nat → Prop} {m k : Nat} {told : Nat → Bool} {out : List (List Nat)} (hE : ∀ x y, E x y → x < m ∧ y < m) (h : Sf E m (fun x => told x = true) out) (hl : Lf E m (fun x => told x = true) k) : Sf E m (fun x => (told x || decide (x ∈ cmp E m k)) = true) (out ++ [cmp E m k]) :=
  (h.more hE hl).congr fun x => by simp

set_option maxRecDepth 100000 in
set_option maxHeartbeats 4000000 in
theorem rComponents_any (n : Int) (A : Option Addr) (c : Nat) (l : List (Int × Int)) (hl : l.length ≤ 1000) (w : World) (hs : Es w w.heap.size A l) : Calls Try.prog 13 #[.int .i64 n, .slice A l.length c] w (OutPost w n l) := by
  obtain ⟨j0, hj, hy0, hy1, hy2⟩ := info_parts info4
  obtain ⟨i0, hi, hz0, hz1, hz2⟩ := info_parts info3
  obtain ⟨i9, hi9, hz90, hz91, hz92⟩ := info_parts info29
  obtain ⟨i8, hi8, hz80, hz81, hz82⟩ := info_parts info38
  have HB := Lib.hid (bound_any n w)
  have HF := Lib.hid (fun (f : Int) W h => From_any n A c l f hl W h)
  have HS := Lib.hid hs
  have HR := Lib.hid (fun i x hi => fr_rb (n := n) (l := l) (i := i) (x := x) hi)
  have hle := am_le n
  have Hm := Lib.hid (rfl : am n = am n)
  unfold OutPost
  have HEd := Lib.hid (ed_in (am n) l)
  generalize Ed (am n) l = E at *
  generalize am n = m at *
  clear Hm hs
  go_enter Try.func13, Try.ntmps13
  go_wp2_with fail
  refine HB.out.mono ?_
  rintro e w1 ⟨rfl, rfl⟩
  clear HB
  go_wp2
  go_loopg [6, 7] m (fun q v t W => ∃ k : Nat, k + q = m ∧ t = .int .i64 (k : Int) ∧ Hid (Rw W w1.heap.size v k m (rb E)) ∧ Hid (Below w1.heap.size w1 W))
  case atStart => exact ⟨0, by omega, rfl, ⟨[], World.ownsRow_nil _ _ _ _, fun i h => by omega⟩, Below.refl _ _⟩
  case round =>
    obtain ⟨k, hk, rfl, hRw, hB⟩ := hrel
    by_cases hlt : k < m
    · have hki : (k : Int) < (m : Int) := by omega
      have hk0 : (0 : Int) ≤ (k : Int) := by omega
      have HFk := Lib.hid (HF.out (k : Int) wr (HS.out.to hB.out hB.out.size))
      go_wp2_with fail
      refine HFk.out.mono ?_
      rintro e w2 ⟨s, rfl, hSr, hsl, B2⟩
      have hSr2 : Br w2 s (rb E k) m := hSr.congr fun x hx => HR.out k x hlt
      obtain ⟨hs1, ho1, hi1⟩ := hRw.out.up B2
      have B3 : Below w2.heap.size w2 (w2.alloc (.cells #[.slice (some ⟨s, 0, none⟩) m m] 38)) := (Below.refl _ _).alloc (Nat.le_refl _) _
      have HOr := Lib.hid (own_same (w' := w2.alloc (.cells #[.slice (some ⟨s, 0, none⟩) m m] 38)) ho1 fun r hr => heap_alloc_old _ _ (ho1.lt r hr).2)
      have HN := Lib.hid (heap_alloc_new w2 (.cells #[.slice (some ⟨s, 0, none⟩) m m] 38))
      have HI : Hid (∀ i, i < k → ∃ r, hs1[i]? = some (.slice (some ⟨r, 0, none⟩) m m) ∧ Br (w2.alloc (.cells #[.slice (some ⟨s, 0, none⟩) m m] 38)) r (rb E i) m) := fun i hi => by
        obtain ⟨r, k1, k2⟩ := hi1 i hi
        exact ⟨r, k1, Tb.old k2 _⟩
      have HSr : Hid (Br (w2.alloc (.cells #[.slice (some ⟨s, 0, none⟩) m m] 38)) s (rb E k) m) := Tb.old hSr2 _
      have HB2 := Lib.hid ((hB.out.trans (B2.mono hB.out.size)).alloc (Nat.le_trans hB.out.size B2.size) (.cells #[.slice (some ⟨s, 0, none⟩) m m] 38))
      have hz2' : w1.heap.size ≤ w2.heap.size := Nat.le_trans hB.out.size B2.size
      clear ho1 hi1 hSr hSr2 hRw hB HFk B2 B3
      go_wp2_with (at_builtin; refine wpList_append_lies _ rfl _ _ 39 rfl w1.heap.size 38 i8 (.slice none 0 0) 1 24 Try.underlying39 hi8 hz80 hz81 hz82 rfl (by decide) u6 k hs1 rfl HOr.out ⟨w2.heap.size, 0, none⟩ 1 1 [.slice (some ⟨s, 0, none⟩) m m] rfl rfl (World.news_of_block HN.out) (by intro u hu; simp at hu; subst hu; rfl) (by decide) (by unfold maxLen; omega) (by omega) (by simp; omega) (w2.heap.size + 1) (by simp) ?_; intro g9 c9 w9 hown9 hgrow9 hat9 hlt9)
      have HRw := Lib.hid (rw_more HOr.out HI.out HSr.out hgrow9 hown9)
      have HB9 := Lib.hid (HB2.out.grown hgrow9 HB2.out.size (fun r hr => (HOr.out.lt r hr).1))
      clear hown9 hgrow9 hat9
      go_wp2
      go_roundg (m - (k + 1))
      case measure => omega
      case rel => exact ⟨k + 1, by omega, by go_num, HRw.out, HB9.out⟩
    · obtain rfl : m = k := by omega
      obtain ⟨V, hV⟩ : ∃ V, V = wr := ⟨_, rfl⟩
      subst hV
      go_wp2_with (first | (at_make; refine wpList_make_full _ rfl _ _ 38 rfl V.heap.size 4 j0 (.bool false) 1 (by kernel_rfl) hj hy0 hy1 _ _ _ _ m rfl rfl rfl rfl (by rw [hy2]; omega) (by unfold maxLen; omega) (Nat.le_refl _) ?_; intro w4 hown4 hgrow4))
      have HT4 : Hid (Br w4 V.heap.size (fun _ => false) m) := tb_made hown4 rfl
      have HB4 : Hid (Below V.heap.size V w4) := (Below.refl _ _).grown hgrow4 (Nat.le_refl _) (by simp)
      clear hown4 hgrow4
      go_loopg [9, 10] (uns m (fun _ => false) + m) (fun q ov t W => ∃ (k : Nat) (told : Nat → Bool) (out : List (List Nat)), t = .int .i64 (k : Int) ∧ k ≤ m ∧ Hid (uns m told + (m - k) ≤ q) ∧ Hid (uns m told + out.length ≤ m) ∧ Hid (∀ j, j < k → told j = true) ∧ Hid (Sf E m (fun x => told x = true) out) ∧ Hid (Br W V.heap.size told m) ∧ Hid (Pr W V.heap.size ov out) ∧ Hid (Below V.heap.size V W))
      case atStart =>
        refine ⟨0, fun _ => false, [], rfl, Nat.zero_le _, by show _ ≤ _; omega, ?_, fun j h => by omega, ?_, HT4.out, ⟨[], World.ownsRow_nil _ _ _ _, fun i p h => by simp at h⟩, HB4.out⟩
        · have := uns_le (m := m) (fun _ => false)
          show _ ≤ _
          simp; exact this
        · exact (Sf.start (E := E) (m := m)).congr fun x => by simp
      case round =>
        obtain ⟨k, told, out, rfl, hk, hms, hlen, hup, hSf, hT, hPr, hBV⟩ := hrel
        by_cases hlt : k < m
        · have hki : (k : Int) < (m : Int) := by omega
          have hk0 : (0 : Int) ≤ (k : Int) := by omega
          have cT := hT.out.cell hlt
          rcases htk : told k with _ | _
          · rw [htk] at cT
            have Htk := Lib.hid htk
            obtain ⟨gf, cf, R, rfl, hcell⟩ := hRw.out.cells (by omega)
            have HC := Lib.hid (hcell wr hBV.out)
            clear htk
            go_wp2
            go_loopg [11, 12] m (fun q nv t W => ∃ i : Nat, i + q = m ∧ t = .int .i64 (i : Int) ∧ W = wr ∧ ((nv = .int .i64 (-1) ∧ Hid (∀ j, j < i → ¬ (told j = false ∧ Fr E m (fun x => told x = true) j))) ∨ ∃ k0 : Nat, nv = .int .i64 (k0 : Int) ∧ Hid (Lf E m (fun x => told x = true) k0)))
            case atStart => exact ⟨0, by omega, rfl, rfl, .inl ⟨rfl, fun j h => by omega⟩⟩
            case round =>
              obtain ⟨i, hiq, rfl, hW, hnx⟩ := hrel
              subst hW
              clear cT
              rcases hnx with ⟨rfl, hno⟩ | ⟨k0, rfl, hLf⟩
              · by_cases hlt3 : i < m
                · have hii : (i : Int) < (m : Int) := by omega
                  have hi00 : (0 : Int) ≤ (i : Int) := by omega
                  have cTi := hT.out.cell hlt3
                  go_wp2
                  go_loopg [13, 14] m (fun q fv t W => ∃ (j : Nat) (fb : Bool), j + q = m ∧ fv = .bool fb ∧ t = .int .i64 (j : Int) ∧ W = wr ∧ Hid (fb = true ↔ told i = false ∧ ∀ y, y < j → (rb E i y && !rb E y i && !told y) = false))
                  case atStart => exact ⟨0, !told i, by omega, rfl, rfl, rfl, by show _ ↔ _; simp⟩
                  case round =>
                    obtain ⟨j, fb, hjq, rfl, rfl, hW, hfb⟩ := hrel
                    subst hW
                    clear cTi
                    by_cases hlt4 : j < m
                    · have hji : (j : Int) < (m : Int) := by omega
                      have hj00 : (0 : Int) ≤ (j : Int) := by omega
                      obtain ⟨c1, c2⟩ := HC.out i j hlt3 hlt4
                      obtain ⟨c3, c4⟩ := HC.out j i hlt4 hlt3
                      have c5 := hT.out.cell hlt4
                      have NX : Hid ((rb E i j && !rb E j i && !told j) = false → (fb = true ↔ told i = false ∧ ∀ y, y < j + 1 → (rb E i y && !rb E y i && !told y) = false)) := fun e => by
                        rw [hfb.out]
                        refine and_congr_right fun _ => ⟨fun h y hy => ?_, fun h y hy => h y (by omega)⟩
                        rcases Nat.lt_or_ge y j with h' | h'
                        · exact h y h'
                        · obtain rfl : y = j := by omega
                          exact e
                      have NF : Hid ((rb E i j && !rb E j i && !told j) = true → (false = true ↔ told i = false ∧ ∀ y, y < j + 1 → (rb E i y && !rb E y i && !told y) = false)) := fun e =>
                        ⟨fun h => (by cases h), fun h => by rw [h.2 j (by omega)] at e; cases e⟩
                      generalize rb E i j = f1 at *
                      generalize rb E j i = f2 at *
                      generalize told j = f3 at *
                      rcases f1 with _ | _
                      · have NX2 := Lib.hid (NX.out rfl)
                        clear NX NF
                        go_wp2
                        go_roundg (m - (j + 1))
                        case measure => omega
                        case rel => exact ⟨j + 1, fb, by omega, rfl, by go_num, rfl, NX2.out⟩
                      · rcases f2 with _ | _
                        · rcases f3 with _ | _
                          · have NX2 := Lib.hid (NF.out rfl)
                            clear NX NF
                            go_wp2
                            go_roundg (m - (j + 1))
                            case measure => omega
                            case rel => exact ⟨j + 1, false, by omega, rfl, by go_num, rfl, NX2.out⟩
                          · have NX2 := Lib.hid (NX.out rfl)
                            clear NX NF
                            go_wp2
                            go_roundg (m - (j + 1))
                            case measure => omega
                            case rel => exact ⟨j + 1, fb, by omega, rfl, by go_num, rfl, NX2.out⟩
                        · have NX2 := Lib.hid (NX.out rfl)
                          clear NX NF
                          go_wp2
                          go_roundg (m - (j + 1))
                          case measure => omega
                          case rel => exact ⟨j + 1, fb, by omega, rfl, by go_num, rfl, NX2.out⟩
                    · obtain rfl : m = j := by omega
                      rcases fb with _ | _
                      · have hno2 : Hid (∀ j, j < i + 1 → ¬ (told j = false ∧ Fr E m (fun x => told x = true) j)) := fun j hj hf => by
                          rcases Nat.lt_or_ge j i with h | h
                          · exact hno.out j h hf
                          · obtain rfl : j = i := by omega
                            exact absurd (hfb.out.2 ⟨hf.1, fr_free hf.2⟩) (by decide)
                        go_wp2
                        go_roundg (m - (i + 1))
                        case measure => omega
                        case rel => exact ⟨i + 1, by omega, by go_num, rfl, .inl ⟨rfl, hno2.out⟩⟩
                      · have hLf : Hid (Lf E m (fun x => told x = true) i) := by
                          obtain ⟨h1, h2⟩ := hfb.out.1 rfl
                          exact ⟨hlt3, by simp [h1], free_fr h2, fun j hj hn hf => hno.out j hj ⟨by simpa using hn, hf⟩⟩
                        go_wp2
                        go_roundg (m - (i + 1))
                        case measure => omega
                        case rel => exact ⟨i + 1, by omega, by go_num, rfl, .inr ⟨i, rfl, hLf.out⟩⟩
                · obtain rfl : m = i := by omega
                  exfalso
                  obtain ⟨k1, h1⟩ := some_least (E := E) (T := fun x => told x = true) hlt (by rw [Htk.out]; simp)
                  exact hno.out k1 h1.1 ⟨by simpa using h1.2.1, h1.2.2.1⟩
              · have hk0m := hLf.out.1
                have hk00 : (0 : Int) ≤ (k0 : Int) := by omega
                have hk0n : decide ((k0 : Int) < 0) = false := decide_eq_false (by omega)
                have hk0i : (k0 : Int) < (m : Int) := by omega
                have hT0 : wr.heap[V.heap.size]? = some (.cells (tab (fun j => .bool (told j)) m) 4 (0, 0)) := hT.out
                have HT0 := Lib.hid hT0
                have HZ := Lib.hid hBV.out.size
                have hVU := Tb.lt hT.out
                have htk0 : Hid (told k0 = false) := by have := hLf.out.2.1; show _ = _; simpa using this
                clear hT0
                obtain ⟨U, hU⟩ : ∃ U, U = wr := ⟨_, rfl⟩
                subst hU
                by_cases hii : (i : Int) < (m : Int)
                case' neg => have hid := decide_eq_false hii
                all_goals
                  go_wp2
                  go_loopg [15, 16] m (fun q cv t W => ∃ (j : Nat) (told2 : Nat → Bool), j + q = m ∧ t = .int .i64 (j : Int) ∧ Hid (W.ownsRow U.heap.size 3 1 cv (cpre E k0 j).length (iv (cpre E k0 j))) ∧ Hid (Br W V.heap.size told2 m) ∧ Hid (∀ x, told2 x = (told x || decide (x ∈ cpre E k0 j))) ∧ Hid (Off (· = V.heap.size) U W))
                  case atStart => exact ⟨0, told, by omega, rfl, World.ownsRow_nil _ _ _ _, hT.out, fun x => by simp [cpre], Off.refl _ _⟩
                  case round =>
                    obtain ⟨j, told2, hjq, rfl, hown, hT2, hto, hO⟩ := hrel
                    have hBW : Hid (Below V.heap.size V wr) := hBV.out.trans (hO.out.below (by rintro r rfl; exact Nat.le_refl _) HZ.out)
                    have hcl := cpre_len E k0 j
                    by_cases hlt5 : j < m
                    · have hji : (j : Int) < (m : Int) := by omega
                      have hj00 : (0 : Int) ≤ (j : Int) := by omega
                      obtain ⟨c1, c2⟩ := hcell wr hBW.out k0 j hk0m hlt5
                      obtain ⟨c3, c4⟩ := hcell wr hBW.out j k0 hlt5 hk0m
                      have HSc := Lib.hid (cpre_succ E k0 j)
                      have NX : Hid ((rb E k0 j && rb E j k0) = false → cpre E k0 (j + 1) = cpre E k0 j) := fun e => by
                        rw [HSc.out, e]; simp
                      have NY : Hid ((rb E k0 j && rb E j k0) = true → cpre E k0 (j + 1) = cpre E k0 j ++ [j]) := fun e => by
                        rw [HSc.out, e]; simp
                      clear HSc
                      generalize rb E k0 j = f1 at *
                      generalize rb E j k0 = f2 at *
                      rcases f1 with _ | _
                      · have NX2 := Lib.hid (NX.out rfl)
                        clear NX NY
                        go_wp2
                        go_roundg (m - (j + 1))
                        case measure => omega
                        case rel => exact ⟨j + 1, told2, by omega, by go_num, by rw [NX2.out]; exact hown.out, hT2.out, by rw [NX2.out]; exact hto.out, hO.out⟩
                      · rcases f2 with _ | _
                        · have NX2 := Lib.hid (NX.out rfl)
                          clear NX NY
                          go_wp2
                          go_roundg (m - (j + 1))
                          case measure => omega
                          case rel => exact ⟨j + 1, told2, by omega, by go_num, by rw [NX2.out]; exact hown.out, hT2.out, by rw [NX2.out]; exact hto.out, hO.out⟩
                        · have NX2 := Lib.hid (NY.out rfl)
                          clear NX NY
                          have HOr := Lib.hid (own_same (w' := wr.alloc (.cells #[.int .i64 (j : Int)] 3)) hown.out fun r hr => heap_alloc_old _ _ (hown.out.lt r hr).2)
                          have HN := Lib.hid (heap_alloc_new wr (.cells #[.int .i64 (j : Int)] 3))
                          have HT5 : Hid (Br (wr.alloc (.cells #[.int .i64 (j : Int)] 3)) V.heap.size told2 m) := Tb.old hT2.out _
                          have HO5 := Lib.hid (hO.out.alloc (.cells #[.int .i64 (j : Int)] 3))
                          have hz5 := hO.out.size
                          clear hown hT2 hO
                          go_wp2_with (at_builtin; refine wpList_append_lies _ rfl _ _ 29 rfl U.heap.size 3 i0 (.int .i64 0) 1 8 Try.underlying29 hi hz0 hz1 hz2 rfl (by decide) u15 (cpre E k0 j).length (iv (cpre E k0 j)) rfl HOr.out ⟨wr.heap.size, 0, none⟩ 1 1 [.int .i64 (j : Int)] rfl rfl (World.news_of_block HN.out) (by intro u hu; simp at hu; subst hu; rfl) (by decide) (by unfold maxLen; omega) (by omega) (by simp; omega) (wr.heap.size + 1) (by simp) ?_; intro g' c' w5 hown5 hgrow hat hgl5; have HT6 : Hid (Br w5 V.heap.size told2 m) := Tb.same HT5.out (hgrow.block _ (Tb.lt HT5.out) (own_tag HOr.out (show (wr.alloc (.cells #[.int .i64 (j : Int)] 3)).heap[V.heap.size]? = some (.cells (tab (fun j => .bool (told2 j)) m) 4 (0, 0)) from HT5.out) (by decide))); have f6 := Tb.free HT6.out j; have c6 := HT6.out.cell hlt5)
                          have H8 : Hid ((w5.setCell ⟨V.heap.size, j, none⟩ (.bool true)).ownsRow U.heap.size 3 1 (.slice (some ⟨g', 0, none⟩) ((cpre E k0 j).length + 1) c') (cpre E k0 (j + 1)).length (iv (cpre E k0 (j + 1)))) := by
                            show World.ownsRow _ _ _ _ _ _ _
                            rw [NX2.out, iv_snoc, List.length_append]
                            exact own_same hown5 fun r hr => Below.heap_setCell _ _ _ r (by have := (hown5.lt r hr).1; show r ≠ V.heap.size; omega)
                          have H9 := Lib.hid (HT6.out.upd j)
                          have H10 : Hid (∀ x, upd told2 j x = (told x || decide (x ∈ cpre E k0 (j + 1)))) := fun x => by
                            rw [NX2.out, upd, hto.out]
                            simp only [List.mem_append, List.mem_singleton, Bool.decide_or, Bool.or_assoc]
                            congr 2
                          have H11 := Lib.hid ((HO5.out.grown hgrow (fun r hr => .inr (HOr.out.lt r hr).1)).set (p := ⟨V.heap.size, j, none⟩) (.inl rfl) (.bool true))
                          clear hown5 hgrow hat f6 c6
                          go_wp2
                          go_roundg (m - (j + 1))
                          case measure => omega
                          case rel => exact ⟨j + 1, upd told2 j, by omega, by go_num, H8.out, H9.out, H10.out, H11.out⟩
                    · obtain rfl : m = j := by omega
                      have hown' : wr.ownsRow U.heap.size 3 1 u15 (cmp E m k0).length (iv (cmp E m k0)) := hown.out
                      have hne : (cmp E m k0).length ≠ 0 := fun e => by
                        have := cmp_self (E := E) hk0m
                        rw [List.length_eq_zero_iff.1 e] at this
                        simp at this
                      obtain ⟨gc, cc, rfl⟩ : ∃ gc cc, u15 = .slice (some ⟨gc, 0, none⟩) (cmp E m k0).length cc := by
                        rcases hown'.2 with ⟨_, h0⟩ | ⟨g, cap, cur, h, _⟩
                        · exact absurd h0 hne
                        · exact ⟨g, cap, h⟩
                      have hIr : Ir wr (.slice (some ⟨gc, 0, none⟩) (cmp E m k0).length cc) (cmp E m k0) := ir_own hown' rfl
                      obtain ⟨hs2, ho2, hi2⟩ := hPr.out.off hO.out HT0.out
                      have b0 : Below wr.heap.size wr (wr.alloc (.cells #[.slice (some ⟨gc, 0, none⟩) (cmp E m k0).length cc] 29)) := (Below.refl _ _).alloc (Nat.le_refl _) _
                      have HOr := Lib.hid (own_same (w' := wr.alloc (.cells #[.slice (some ⟨gc, 0, none⟩) (cmp E m k0).length cc] 29)) ho2 fun r hr => heap_alloc_old _ _ (ho2.lt r hr).2)
                      have HN := Lib.hid (heap_alloc_new wr (.cells #[.slice (some ⟨gc, 0, none⟩) (cmp E m k0).length cc] 29))
                      have HI2 : Hid (∀ (i : Nat) (p : List Nat), out[i]? = some p → ∃ h, hs2[i]? = some h ∧ Ir (wr.alloc (.cells #[.slice (some ⟨gc, 0, none⟩) (cmp E m k0).length cc] 29)) h p) := fun i p hp => by
                        obtain ⟨y, k1, k2⟩ := hi2 i p hp
                        exact ⟨y, k1, k2.ut (Ut.of_below b0)⟩
                      have HIr := Lib.hid (hIr.ut (Ut.of_below b0))
                      have Hhl : Hid (hs2.length = out.length) := by have := ho2.1; show _ = _; omega
                      have HT5 : Hid (Br (wr.alloc (.cells #[.slice (some ⟨gc, 0, none⟩) (cmp E m k0).length cc] 29)) V.heap.size told2 m) := Tb.old hT2.out _
                      have HB5 := Lib.hid (hBW.out.alloc hBW.out.size (.cells #[.slice (some ⟨gc, 0, none⟩) (cmp E m k0).length cc] 29))
                      have hol : out.length ≤ 1000 := by have := hlen.out; omega
                      have hzz := hBW.out.size
                      have hcm := cmp_len (E := E) m k0
                      have HSf := Lib.hid (sf_told HEd.out hSf.out hLf.out)
                      have HL := Lib.hid (told_less (E := E) hk0m htk0.out)
                      have Hto : Hid (∀ x, told2 x = (told x || decide (x ∈ cmp E m k0))) := hto.out
                      clear hown hown' hIr hi2 ho2 b0 hO hT2 hne hto
                      generalize cmp E m k0 = cm at *
                      go_wp2_with (at_builtin; refine wpList_append_lies _ rfl _ _ 25 rfl V.heap.size 29 i9 (.slice none 0 0) 1 24 Try.underlying25 hi9 hz90 hz91 hz92 rfl (by decide) u9 out.length hs2 rfl HOr.out ⟨wr.heap.size, 0, none⟩ 1 1 [.slice (some ⟨gc, 0, none⟩) cm.length cc] rfl rfl (World.news_of_block HN.out) (by intro u hu; simp at hu; subst hu; rfl) (by decide) (by unfold maxLen; omega) (by omega) (by simp; omega) (wr.heap.size + 1) (by simp) ?_; intro g9 c9 w9 hown9 hgrow9 hat9 hlt9)
                      have HP9 := Lib.hid (pr_more HI2.out Hhl.out HIr.out hgrow9 (own_row HOr.out) hown9 rfl)
                      have HT9 : Hid (Br w9 V.heap.size (fun x => told x || decide (x ∈ cm)) m) := (Br.congr (Tb.same HT5.out (hgrow9.block _ (Tb.lt HT5.out) (own_tag HOr.out (show (wr.alloc (.cells #[.slice (some ⟨gc, 0, none⟩) cm.length cc] 29)).heap[V.heap.size]? = some (.cells (tab (fun j => .bool (told2 j)) m) 4 (0, 0)) from HT5.out) (by decide)))) fun x _ => Hto.out x)
                      have HB9 := Lib.hid (HB5.out.grown hgrow9 HB5.out.size (fun r hr => (HOr.out.lt r hr).1))
                      have HL2 : Hid (uns m (fun x => told x || decide (x ∈ cm)) + (out ++ [cm]).length ≤ m) := by
                        have h1 := HL.out
                        have h2 := hlen.out
                        show _ ≤ _
                        rw [List.length_append, List.length_singleton]
                        omega
                      have HUP : Hid (∀ j, j < k → (told j || decide (j ∈ cm)) = true) := fun j hj => by rw [hup.out j hj]; rfl
                      clear hown9 hgrow9 hat9
                      go_wp2
                      go_roundg (uns m (fun x => told x || decide (x ∈ cm)) + (m - k))
                      case measure => have h1 := hms.out; have h2 := HL.out; omega
                      case rel => exact ⟨k, _, out ++ [cm], rfl, by omega, Nat.le_refl _, HL2.out, HUP.out, HSf.out, HT9.out, HP9.out, HB9.out⟩
          · rw [htk] at cT
            have hup2 : Hid (∀ j, j < k + 1 → told j = true) := fun j hj => by
              rcases Nat.lt_or_ge j k with h | h
              · exact hup.out j h
              · obtain rfl : j = k := by omega
                exact htk
            clear htk
            go_wp2
            go_roundg (uns m told + (m - (k + 1)))
            case measure => have := hms.out; omega
            case rel => exact ⟨k + 1, told, out, by go_num, by omega, Nat.le_refl _, hlen.out, hup2.out, hSf.out, hT.out, hPr.out, hBV.out⟩
        · obtain rfl : m = k := by omega
          have hO : Hid (Out E m (fun _ => False) out) := hSf.out.end_ hup.out
          obtain ⟨Ao, co, rfl, _⟩ := hPr.out.form
          have hL := Lib.hid hPr.out.ll
          have hBw := Lib.hid (hB.out.trans (hBV.out.mono hB.out.size))
          go_wp2
          go_ret
          exact ⟨out, hO.out, Ao, co, rfl, hL.out, hBw.out⟩

end Go.Proofs.Ytnfjfpiijikniaa.Gp
