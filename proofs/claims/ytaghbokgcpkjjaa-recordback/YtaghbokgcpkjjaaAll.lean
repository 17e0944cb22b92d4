/-
  The walks of record.All and of the document's All: both answer what 'ra' says. Conditions: the bytes are bytes, at most 20000.
-/
import Derived.Test.YtaghbokgcpkjjaaRg14
namespace Go.Proofs.Ytaghbokgcpkjjaa
open Go.RowKit

theorem info24 : (Try.prog.info? 24).map (fun i => (i.zero, i.size, i.bytes)) = some (some (.agg #[.int .i64 0, .slice none 0 0]), 2, 32) := by kernel_rfl

/-- The cells of records: each its kind, and its body's slice, which leads to a block of bytes. -/
def Rr (w : World) (l : List (Int × List Int)) (cs : List Value) : Prop :=
  cs.length = l.length * 2 ∧ ∀ i r, l[i]? = some r → ∃ A c, cs[i * 2]? = some (.int .i64 r.1) ∧ cs[i * 2 + 1]? = some (.slice A r.2.length c) ∧ Sl w w.heap.size .u8 A r.2 ∧ Tg w A

theorem Rr.nil (w : World) : Rr w [] [] := ⟨rfl, fun i r h => by simp at h⟩
theorem Rr.below {w w' : World} {l : List (Int × List Int)} {cs : List Value} (h : Rr w l cs) (hb : Below w.heap.size w w') : Rr w' l cs :=
  ⟨h.1, fun i r hr => by
    obtain ⟨A, c, h1, h2, h3, h4⟩ := h.2 i r hr
    exact ⟨A, c, h1, h2, (h3.below hb).mono hb.size, h4.below hb⟩⟩
theorem Rr.snoc {w : World} {l : List (Int × List Int)} {cs : List Value} (h : Rr w l cs) {k : Int} {b : List Int} {A : Option Addr} {c : Nat} (hs : Sl w w.heap.size .u8 A b) (ht : Tg w A) : Rr w (l ++ [(k, b)]) (cs ++ [.int .i64 k, .slice A b.length c]) := by
  refine ⟨by rw [List.length_append, List.length_append, h.1]; simp; omega, fun i r hr => ?_⟩
  rcases Nat.lt_or_ge i l.length with hi | hi
  · rw [List.getElem?_append_left hi] at hr
    obtain ⟨A', c', h1, h2, h3, h4⟩ := h.2 i r hr
    exact ⟨A', c', by rw [List.getElem?_append_left (by rw [h.1]; omega)]; exact h1, by rw [List.getElem?_append_left (by rw [h.1]; omega)]; exact h2, h3, h4⟩
  · have hil : i = l.length := by
      have := (List.getElem?_eq_some_iff.1 hr).1
      simp at this; omega
    subst hil
    rw [List.getElem?_append_right (Nat.le_refl _)] at hr
    simp at hr
    subst hr
    refine ⟨A, c, ?_, ?_, hs, ht⟩
    · rw [List.getElem?_append_right (by rw [h.1]; omega), h.1]; simp
    · rw [List.getElem?_append_right (by rw [h.1]; omega), h.1, show l.length * 2 + 1 - l.length * 2 = 1 from by omega]; rfl
/-- Memory that grows by a row that is no row of bytes keeps what records are. -/
theorem Rr.grown {w w' : World} {l : List (Int × List Int)} {cs : List Value} (h : Rr w l cs) {base n : Nat} {v : Value} {xs : List Value} (hown : w.ownsRow base 24 2 v n xs) (hg : w.grownBy w' v.ownBlock) : Rr w' l cs :=
  ⟨h.1, fun i r hr => by
    obtain ⟨A, c, h1, h2, h3, h4⟩ := h.2 i r hr
    have hne : ∀ a, A = some a → some a.block ≠ v.ownBlock := fun a ha he => by
      obtain ⟨ds, hd⟩ := h4 a ha
      rcases hown.2 with ⟨rfl, _⟩ | ⟨g, cap, cur, rfl, _, hh, _⟩
      · simp [Value.ownBlock] at he
      · simp only [Value.ownBlock, Option.some.injEq] at he
        rw [he] at hd
        rw [hh] at hd
        simp at hd
    have hbl : ∀ a, A = some a → w'.heap[a.block]? = w.heap[a.block]? := fun a ha => by
      obtain ⟨ds, hd⟩ := h4 a ha
      exact hg.block a.block (lt_of_block hd) (hne a ha)
    refine ⟨A, c, h1, h2, ?_, fun a ha => by obtain ⟨ds, hd⟩ := h4 a ha; exact ⟨ds, (hbl a ha).trans hd⟩⟩
    rcases h3 with h3 | ⟨b, off, hA, hlt, hc⟩
    · exact .inl h3
    · exact .inr ⟨b, off, hA, Nat.lt_of_lt_of_le hlt hg.size, fun j x hx => by
        rw [World.cell?_of_block (w := w) (show w'.heap[(⟨b, off + j, none⟩ : Addr).block]? = w.heap[(⟨b, off + j, none⟩ : Addr).block]? from hbl ⟨b, off, none⟩ hA)]
        exact hc j x hx⟩⟩

/-- A slice of records that reads as l. -/
def Rc (w : World) (B : Nat) (A : Option Addr) (l : List (Int × List Int)) : Prop :=
  l = [] ∨ ∃ b off, A = some ⟨b, off, none⟩ ∧ b < B ∧ ∀ i r, l[i]? = some r → w.cell? ⟨b, off + i * 2, none⟩ = some (.int .i64 r.1) ∧
    ∃ A' c', w.cell? ⟨b, off + i * 2 + 1, none⟩ = some (.slice A' r.2.length c') ∧ Sl w B .u8 A' r.2

/-- The call gave records and the error; nothing that was there has turned. -/
def RaPost (w : World) (r : List (Int × List Int) × Int) (e : Ending) (w' : World) : Prop :=
  ∃ A c, e = .returned (.tuple #[.slice A r.1.length c, .int .i64 r.2]) ∧ Rc w' w'.heap.size A r.1 ∧ Below w.heap.size w w'

def RaRel (w : World) (xs : List Int) (v t : Value) (wr : World) : Prop :=
  ∃ (p f : Nat) (l : List (Int × List Int)) (cs : List Value), p ≤ xs.length ∧ t = .int .i64 (p : Int) ∧ wr.ownsRow w.heap.size 24 2 v l.length cs ∧ Rr wr l cs ∧ Below w.heap.size w wr ∧
    ra (xs.length + 1) [] xs = ra f l (xs.drop p) ∧ xs.length - p < f ∧ l.length ≤ p

/-- Rows of records of the call's own are a slice that reads as their list. -/
theorem rows_rc {w : World} {base : Nat} {v : Value} {l : List (Int × List Int)} {cs : List Value} (h : w.ownsRow base 24 2 v l.length cs) (hr : Rr w l cs) : ∃ A c, v = .slice A l.length c ∧ Rc w w.heap.size A l := by
  rcases h.2 with ⟨rfl, h0⟩ | ⟨g, cap, cur, rfl, hg, hh, hnc, hcp, hcs, htake⟩
  · exact ⟨none, 0, by rw [h0], .inl (List.length_eq_zero_iff.1 h0)⟩
  · refine ⟨_, cap, rfl, .inr ⟨g, 0, rfl, lt_of_block hh, fun i r hi => ?_⟩⟩
    have hil : i < l.length := (List.getElem?_eq_some_iff.1 hi).1
    obtain ⟨A, c, h1, h2, h3, _⟩ := hr.2 i r hi
    refine ⟨?_, A, c, ?_, h3⟩
    · rw [Nat.zero_add, h.cellAt (i * 2) (by omega)]; exact h1
    · rw [Nat.zero_add, h.cellAt (i * 2 + 1) (by omega)]; exact h2

theorem rec_cells (W : World) (k : Int) (A : Option Addr) (n c : Nat) : ∀ j u, [Value.int .i64 k, .slice A n c][j]? = some u → (W.alloc (.cells #[.int .i64 k, .slice A n c] 24)).cell? ((⟨W.heap.size, 0, none⟩ : Addr).add j) = some u := by
  intro j u hu
  rw [Addr.add_lit]
  match j, hu with
  | 0, hu => simp at hu; subst hu; simp
  | 1, hu => simp at hu; subst hu; simp

set_option maxHeartbeats 1600000 in
theorem all_any (A : Option Addr) (c : Nat) (xs : List Int) (w : World) (hl : xs.length ≤ 20000) (hc : xs.length ≤ c) (hs : Sl w w.heap.size .u8 A xs) (hx : ∀ x ∈ xs, 0 ≤ x ∧ x ≤ 255) :
    Calls Try.prog 15 #[.slice A xs.length c] w (RaPost w (ra (xs.length + 1) [] xs)) := by
  obtain ⟨i0, hi, hz0, hz1, hz2⟩ := info_parts info24
  have HX := Lib.hid hx
  have HS := Lib.hid hs
  clear hx hs
  go_enter Try.func15, Try.ntmps15
  go_wp2
  go_loopw [4, 5] (fun v t wr => RaRel w xs v t wr) (fun _ t _ => 20001 - (intOf t).toNat)
  case atStart => exact ⟨0, xs.length + 1, [], [], Nat.zero_le _, rfl, World.ownsRow_nil _ _ _ _, Rr.nil _, Below.refl _ _, rfl, by omega, Nat.le_refl _⟩
  case round =>
    obtain ⟨p, f, l, cs, hp, rfl, hown, hrr, hbel, hra, hf, hll⟩ := hrel
    have HRA := Lib.hid hra
    clear hra
    by_cases hlt : p < xs.length
    · obtain ⟨A', r1, r2, hs'⟩ := tail_run (HS.out.below hbel) c p p rfl hp hc
      have hlti : (p : Int) < (xs.length : Int) := by omega
      have hdl : (xs.drop p).length = xs.length - p := List.length_drop ..
      have hdb : ∀ x ∈ xs.drop p, 0 ≤ x ∧ x ≤ 255 := fun x h => HX.out x (List.mem_of_mem_drop h)
      have hne : xs.drop p ≠ [] := fun q => by rw [q] at hdl; simp at hdl; omega
      obtain ⟨f', rfl⟩ : ∃ f', f = f' + 1 := ⟨f - 1, by omega⟩
      have HG : Hid (Calls Try.prog 13 #[.slice A' (xs.length - p) (c - p)] wr (RgPost wr (rg (xs.drop p)))) := by
        have := rget3_any A' (c - p) (xs.drop p) wr (by omega) (by omega) (hs'.mono hbel.size) hdb
        rw [hdl] at this
        exact this
      rcases hg : rg (xs.drop p) with ⟨k, b, n, e⟩
      rw [hg] at HG
      by_cases he : e = 0
      · subst he
        obtain ⟨k0, k1, hbl, n0, n1, _, _⟩ := rg_once hdb hg
        have hra := HRA.out
        rw [ra_on hne hg, List.drop_drop] at hra
        have HRA' := Lib.hid hra
        have hsz := hbel.size
        clear hra HRA hg hdb hne hs'
        go_wp2_with (first | (go_at_call 13; refine HG.out.mono ?_; rintro e w2 ⟨A2, c2, rfl, hs2, ⟨hc2, ht2⟩, hb2⟩; have hown2 := own_below hown hb2; have hrr2 := hrr.below hb2; have hsz2 := hb2.size; have hal := (Below.refl w2.heap.size w2).alloc (Nat.le_refl _) (.cells #[.int .i64 k, .slice A2 b.length c2] 24); have hal2 := hal.alloc (by simp) (.cells #[.int .i64 k, .slice A2 b.length c2] 24)) | (at_builtin; refine wpList_append_own _ rfl (.tmp 24) (.tmp 26) 32 rfl w.heap.size 24 i0 (.agg #[.int .i64 0, .slice none 0 0]) 2 32 Try.underlying32 hi hz0 hz1 hz2 rfl (by decide) _ l.length cs rfl ((hown2.alloc _).alloc _) ⟨w2.heap.size + 1, 0, none⟩ 1 1 [.int .i64 k, .slice A2 b.length c2] rfl rfl (by simpa using rec_cells (w2.alloc (.cells #[.int .i64 k, .slice A2 b.length c2] 24)) k A2 b.length c2) (by intro u hu; simp at hu; rcases hu with rfl | rfl <;> rfl) (by unfold maxLen; omega) (by omega) (by simp; omega) ?_; intro v3 w3 hown3 hgrow3 _))
        go_roundw
        case rel =>
          have hra := HRA'.out
          have hb3 : Below w.heap.size w w2 := hbel.trans (hb2.mono hsz)
          refine ⟨p + n, f', l ++ [(k, b)], cs ++ [.int .i64 k, .slice A2 b.length c2], by omega, by go_num, ?_, ?_, ?_, hra, by omega, by rw [List.length_append]; simp; omega⟩
          · rw [List.length_append]; exact hown3
          · exact ((hrr2.below hal2).snoc ((hs2.below hal2).mono hal2.size) (ht2.below hal2)).grown ((hown2.alloc _).alloc _) hgrow3
          · exact (hb3.trans (hal2.mono hb3.size)).grown hgrow3 (by have := hb3.size; simp; omega) (fun q hq => (hown2.lt q hq).1)
        case measure => simp [intOf]; omega
      · have heb : (e == 0) = false := by rw [beq_eq_false_iff_ne]; exact he
        have hra := HRA.out
        rw [ra_bad hne hg he] at hra
        have HRA' := Lib.hid hra
        have hsz := hbel.size
        clear hra HRA hg hdb hne hs' he
        go_wp2_with (go_at_call 13; refine HG.out.mono ?_; rintro e w2 ⟨A2, c2, rfl, hs2, ⟨hc2, ht2⟩, hb2⟩; have hsz2 := hb2.size)
        go_ret2
        rw [HRA'.out]
        have hb3 : Below w.heap.size w w2 := hbel.trans (hb2.mono hsz)
        exact ⟨none, 0, rfl, .inl rfl, hb3.alloc hb3.size _⟩
    · have hra := HRA.out
      rw [List.drop_of_length_le (by omega), ra_nil] at hra
      have HRA' := Lib.hid hra
      clear hra HRA
      go_wp2
      go_ret2
      rw [HRA'.out]
      obtain ⟨A5, c5, rfl, hr5⟩ := rows_rc hown hrr
      exact ⟨A5, c5, rfl, hr5, hbel⟩

set_option maxHeartbeats 1600000 in
theorem rall_any (A : Option Addr) (c : Nat) (xs : List Int) (w : World) (hl : xs.length ≤ 20000) (hc : xs.length ≤ c) (hs : Sl w w.heap.size .u8 A xs) (hx : ∀ x ∈ xs, 0 ≤ x ∧ x ≤ 255) :
    Calls Try.prog 16 #[.slice A xs.length c] w (RaPost w (ra (xs.length + 1) [] xs)) := by
  obtain ⟨i0, hi, hz0, hz1, hz2⟩ := info_parts info24
  have HX := Lib.hid hx
  have HS := Lib.hid hs
  clear hx hs
  go_enter Try.func16, Try.ntmps16
  go_wp2
  go_loopw [4, 5] (fun v t wr => RaRel w xs v t wr) (fun _ t _ => 20001 - (intOf t).toNat)
  case atStart => exact ⟨0, xs.length + 1, [], [], Nat.zero_le _, rfl, World.ownsRow_nil _ _ _ _, Rr.nil _, Below.refl _ _, rfl, by omega, Nat.le_refl _⟩
  case round =>
    obtain ⟨p, f, l, cs, hp, rfl, hown, hrr, hbel, hra, hf, hll⟩ := hrel
    have HRA := Lib.hid hra
    clear hra
    by_cases hlt : p < xs.length
    · obtain ⟨A', r1, r2, hs'⟩ := tail_run (HS.out.below hbel) c p p rfl hp hc
      have hlti : (p : Int) < (xs.length : Int) := by omega
      have hdl : (xs.drop p).length = xs.length - p := List.length_drop ..
      have hdb : ∀ x ∈ xs.drop p, 0 ≤ x ∧ x ≤ 255 := fun x h => HX.out x (List.mem_of_mem_drop h)
      have hne : xs.drop p ≠ [] := fun q => by rw [q] at hdl; simp at hdl; omega
      obtain ⟨f', rfl⟩ : ∃ f', f = f' + 1 := ⟨f - 1, by omega⟩
      have HG : Hid (Calls Try.prog 14 #[.slice A' (xs.length - p) (c - p)] wr (RgPost wr (rg (xs.drop p)))) := by
        have := rg14_any A' (c - p) (xs.drop p) wr (by omega) (by omega) (hs'.mono hbel.size) hdb
        rw [hdl] at this
        exact this
      rcases hg : rg (xs.drop p) with ⟨k, b, n, e⟩
      rw [hg] at HG
      by_cases he : e = 0
      · subst he
        obtain ⟨k0, k1, hbl, n0, n1, _, _⟩ := rg_once hdb hg
        have hra := HRA.out
        rw [ra_on hne hg, List.drop_drop] at hra
        have HRA' := Lib.hid hra
        have hsz := hbel.size
        clear hra HRA hg hdb hne hs'
        go_wp2_with (first | (go_at_call 14; refine HG.out.mono ?_; rintro e w2 ⟨A2, c2, rfl, hs2, ⟨hc2, ht2⟩, hb2⟩; have hown2 := own_below hown hb2; have hrr2 := hrr.below hb2; have hsz2 := hb2.size; have hal := (Below.refl w2.heap.size w2).alloc (Nat.le_refl _) (.cells #[.int .i64 k, .slice A2 b.length c2] 24); have hal2 := hal.alloc (by simp) (.cells #[.int .i64 k, .slice A2 b.length c2] 24)) | (at_builtin; refine wpList_append_own _ rfl (.tmp 24) (.tmp 26) 32 rfl w.heap.size 24 i0 (.agg #[.int .i64 0, .slice none 0 0]) 2 32 Try.underlying32 hi hz0 hz1 hz2 rfl (by decide) _ l.length cs rfl ((hown2.alloc _).alloc _) ⟨w2.heap.size + 1, 0, none⟩ 1 1 [.int .i64 k, .slice A2 b.length c2] rfl rfl (by simpa using rec_cells (w2.alloc (.cells #[.int .i64 k, .slice A2 b.length c2] 24)) k A2 b.length c2) (by intro u hu; simp at hu; rcases hu with rfl | rfl <;> rfl) (by unfold maxLen; omega) (by omega) (by simp; omega) ?_; intro v3 w3 hown3 hgrow3 _))
        go_roundw
        case rel =>
          have hra := HRA'.out
          have hb3 : Below w.heap.size w w2 := hbel.trans (hb2.mono hsz)
          refine ⟨p + n, f', l ++ [(k, b)], cs ++ [.int .i64 k, .slice A2 b.length c2], by omega, by go_num, ?_, ?_, ?_, hra, by omega, by rw [List.length_append]; simp; omega⟩
          · rw [List.length_append]; exact hown3
          · exact ((hrr2.below hal2).snoc ((hs2.below hal2).mono hal2.size) (ht2.below hal2)).grown ((hown2.alloc _).alloc _) hgrow3
          · exact (hb3.trans (hal2.mono hb3.size)).grown hgrow3 (by have := hb3.size; simp; omega) (fun q hq => (hown2.lt q hq).1)
        case measure => simp [intOf]; omega
      · have heb : (e == 0) = false := by rw [beq_eq_false_iff_ne]; exact he
        have hra := HRA.out
        rw [ra_bad hne hg he] at hra
        have HRA' := Lib.hid hra
        have hsz := hbel.size
        clear hra HRA hg hdb hne hs' he
        go_wp2_with (go_at_call 14; refine HG.out.mono ?_; rintro e w2 ⟨A2, c2, rfl, hs2, ⟨hc2, ht2⟩, hb2⟩; have hsz2 := hb2.size)
        go_ret2
        rw [HRA'.out]
        have hb3 : Below w.heap.size w w2 := hbel.trans (hb2.mono hsz)
        exact ⟨none, 0, rfl, .inl rfl, hb3.alloc hb3.size _⟩
    · have hra := HRA.out
      rw [List.drop_of_length_le (by omega), ra_nil] at hra
      have HRA' := Lib.hid hra
      clear hra HRA
      go_wp2
      go_ret2
      rw [HRA'.out]
      obtain ⟨A5, c5, rfl, hr5⟩ := rows_rc hown hrr
      exact ⟨A5, c5, rfl, hr5, hbel⟩

end Go.Proofs.Ytaghbokgcpkjjaa
