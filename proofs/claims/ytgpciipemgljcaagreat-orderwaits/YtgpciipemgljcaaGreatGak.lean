/-
  The parts that are still to be sorted, in memory; the instances done so far. No program's function is walked here. No conditions.
-/
import Derived.Test.YtgpciipemgljcaaGreatGag
import Derived.Test.YtgpciipemgljcaaGreatGai
import Derived.Test.YtgpciipemgljcaaGreatGaj
import Derived.Test.YtgpciipemgljcaaGreatGah
import Derived.Test.YtgpciipemgljcaaGreatGaf
namespace Go.Proofs.YtgpciipemgljcaaGreat.Od
open Go.RowKit
open Go.Proofs.YtgpciipemgljcaaGreat.Gp (Off Ir Po Out cmp mem_cmp)
set_option linter.unusedVariables false

def odk (r : List No) (out : List (List Nat)) (k : Nat) : List Is := (od r (out.take k)).map No.i
theorem odk_zero (r : List No) (out : List (List Nat)) : odk r out 0 = [] := by simp [odk, od]
theorem odk_succ {r : List No} {out : List (List Nat)} {k : Nat} {p : List Nat} (h : out[k]? = some p) : odk r out (k + 1) = odk r out k ++ (so (pn r p)).map No.i := by
  obtain ⟨hl, rfl⟩ := List.getElem?_eq_some_iff.1 h
  unfold odk od
  rw [← List.take_append_getElem hl]
  simp only [List.flatMap_append, List.flatMap_cons, List.flatMap_nil, List.append_nil, List.map_append]
theorem odk_all (r : List No) (out : List (List Nat)) : odk r out out.length = (od r out).map No.i := by unfold odk; rw [List.take_length]
theorem so_len (p : List No) : (so p).length = p.length := (so_perm p).length_eq
theorem pn_len (r : List No) (p : List Nat) : (pn r p).length ≤ p.length := List.length_filterMap_le _ _
theorem odk_len {r : List No} {out : List (List Nat)} {m : Nat} (h : ∀ p ∈ out, p.length ≤ m) (k : Nat) : (odk r out k).length ≤ k * m := by
  induction k with
  | zero => simp [odk_zero]
  | succ k ih =>
    rcases hp : out[k]? with _ | p
    · have : odk r out (k + 1) = odk r out k := by
        unfold odk
        have hk := List.getElem?_eq_none_iff.1 hp
        rw [List.take_of_length_le hk, List.take_of_length_le (by omega)]
      rw [this, Nat.succ_mul]; omega
    · rw [odk_succ hp, List.length_append, List.length_map, so_len, Nat.succ_mul]
      have h1 := pn_len r p
      have h2 := h p (List.mem_of_getElem? hp)
      omega
theorem pn_take {r : List No} {p : List Nat} {j x : Nat} {n : No} (hj : p[j]? = some x) (hx : r[x]? = some n) : pn r (p.take (j + 1)) = pn r (p.take j) ++ [n] := by
  obtain ⟨hl, rfl⟩ := List.getElem?_eq_some_iff.1 hj
  unfold pn
  rw [← List.take_append_getElem hl, List.filterMap_append]
  congr 1
  rw [List.filterMap_cons, hx]
  rfl

/-- What is known of parts. -/
structure Pts (n : Nat) (out : List (List Nat)) : Prop where
  ne : ∀ p ∈ out, p ≠ []
  inn : ∀ p ∈ out, ∀ x ∈ p, x < n
  nd : ∀ p ∈ out, p.Nodup
  one : ∀ (i j : Nat) (p q : List Nat) (x : Nat), out[i]? = some p → out[j]? = some q → x ∈ p → x ∈ q → i = j
theorem Pts.of {E : Nat → Nat → Prop} {n : Nat} {out : List (List Nat)} (hE : ∀ x y, E x y → x < n ∧ y < n) (h : Out E n (fun _ => False) out) : Pts n out := by
  refine ⟨fun p hp => ?_, fun p hp x hx => ?_, fun p hp => ?_, fun i j p q x hi hj hx hy => (h.ot0 hE).place hi hj hx hy⟩
  · obtain ⟨k, hk, rfl⟩ := h.isc p hp
    exact List.ne_nil_of_mem (mem_cmp.2 ⟨hk, .refl, .refl⟩)
  · obtain ⟨k, hk, rfl⟩ := h.isc p hp
    exact (mem_cmp.1 hx).1
  · obtain ⟨k, hk, rfl⟩ := h.isc p hp
    exact Gp.rises_nodup (Gp.cmp_rises k)
theorem Pts.len {n : Nat} {out : List (List Nat)} (h : Pts n out) : ∀ p ∈ out, p.length ≤ n := fun p hp => by
  have := (h.nd p hp).length_le_of_subset (l₂ := List.range n) fun x hx => List.mem_range.2 (h.inn p hp x hx)
  simpa using this

/-- The parts from place k on lie as they were told. -/
structure Pk (D E : Nat) (W : World) (bs : Nat) (v : Value) (out : List (List Nat)) (k : Nat) : Prop where
  row : ∃ hs : List Value, W.ownsRow bs 26 1 v out.length hs ∧ ∀ (i : Nat) (p : List Nat), k ≤ i → out[i]? = some p → ∃ g c, hs[i]? = some (.slice (some ⟨g, 0, none⟩) p.length c) ∧ Ir W (.slice (some ⟨g, 0, none⟩) p.length c) p ∧ D ≤ g ∧ g < E
  lt : ∀ r, v.ownBlock = some r → r < E
theorem Pk.of {D bs : Nat} {W : World} {v : Value} {out : List (List Nat)} (h : Po D W bs v out) : Pk D W.heap.size W bs v out 0 := by
  obtain ⟨hs, ho, hi⟩ := h
  refine ⟨⟨hs, ho, fun i p _ hp => ?_⟩, fun r hr => (ho.lt r hr).2⟩
  obtain ⟨x, hx, ⟨g, c, cur, rfl, hh, hc⟩, hD⟩ := hi i p hp
  exact ⟨g, c, hx, ⟨g, c, cur, rfl, hh, hc⟩, hD g rfl, lt_of_block hh⟩
theorem Ir.same {W W' : World} {g n c : Nat} {p : List Nat} (h : Ir W (.slice (some ⟨g, 0, none⟩) n c) p) (hb : W'.heap[g]? = W.heap[g]?) : Ir W' (.slice (some ⟨g, 0, none⟩) n c) p := by
  obtain ⟨g', c', cur, hv, hh, hc⟩ := h
  simp only [Value.slice.injEq, Option.some.injEq, Addr.mk.injEq, true_and] at hv
  obtain ⟨⟨rfl, _⟩, rfl, rfl⟩ := hv
  exact ⟨g, c, cur, rfl, hb.trans hh, hc⟩
section
variable {D E : Nat} {W W' : World} {bs : Nat} {v : Value} {out : List (List Nat)} {k : Nat}
theorem own_on {base size n : Nat} {e : TypeId} {xs : List Value} (h : W.ownsRow base e size v n xs) (hg : ∀ g, v.ownBlock = some g → W'.heap[g]? = W.heap[g]?) : W'.ownsRow base e size v n xs := by
  refine ⟨h.1, ?_⟩
  rcases h.2 with h0 | ⟨g, cap, cur, rfl, hb, hh, h1, h2, h3, h4⟩
  · exact .inl h0
  · exact .inr ⟨g, cap, cur, rfl, hb, (hg g rfl).trans hh, h1, h2, h3, h4⟩
theorem Pk.on (h : Pk D E W bs v out k) (hb : Below E W W') : Pk D E W' bs v out k := by
  obtain ⟨⟨hs, ho, hi⟩, hl⟩ := h
  refine ⟨⟨hs, own_on ho fun g hg => hb.block g (hl g hg), fun i p hk hp => ?_⟩, hl⟩
  obtain ⟨g, c, h1, h2, h3, h4⟩ := hi i p hk hp
  exact ⟨g, c, h1, Ir.same h2 (hb.block g h4), h3, h4⟩
/-- The part at place k. -/
theorem Pk.at_ {n : Nat} (h : Pk D E W bs v out k) (hP : Pts n out) {p : List Nat} (hp : out[k]? = some p) :
    ∃ bv cv g c, v = .slice (some ⟨bv, 0, none⟩) out.length cv ∧ W.cell? ⟨bv, k, none⟩ = some (.slice (some ⟨g, 0, none⟩) p.length c) ∧ Ir W (.slice (some ⟨g, 0, none⟩) p.length c) p ∧ D ≤ g ∧ g < E ∧
      ∀ V, Off (· = g) W V → Pk D E V bs v out (k + 1) := by
  obtain ⟨⟨hs, ho, hi⟩, hl⟩ := h
  obtain ⟨g, c, h1, h2, h3, h4⟩ := hi k p (Nat.le_refl _) hp
  have hlt := (List.getElem?_eq_some_iff.1 hp).1
  rcases ho.2 with ⟨_, h0⟩ | ⟨bv, cv, cur, rfl, q1, hh, q3, q4, q5, q6⟩
  · omega
  · refine ⟨bv, cv, g, c, rfl, ?_, h2, h3, h4, fun V hV => ⟨⟨hs, own_on ho fun r hr => ?_, fun i q hk hq => ?_⟩, hl⟩⟩
    · have := ho.cells (g := bv) rfl k _ h1
      rwa [Addr.add_lit, Nat.zero_add] at this
    · cases hr
      refine hV.block bv (lt_of_block hh) ?_
      rintro rfl
      obtain ⟨g', c', cur', hv, hh', _⟩ := h2
      simp only [Value.slice.injEq, Option.some.injEq, Addr.mk.injEq, true_and] at hv
      obtain ⟨⟨rfl, _⟩, _⟩ := hv
      rw [hh] at hh'
      simp only [Option.some.injEq, Obj.cells.injEq] at hh'
      exact absurd hh'.2.1 (by decide)
    · obtain ⟨g', c', k1, k2, k3, k4⟩ := hi i q (by omega) hq
      refine ⟨g', c', k1, Ir.same k2 (hV.block g' ?_ ?_), k3, k4⟩
      · obtain ⟨g2, c2, cur2, hv, hh2, _⟩ := k2
        simp only [Value.slice.injEq, Option.some.injEq, Addr.mk.injEq, true_and] at hv
        obtain ⟨⟨rfl, _⟩, _⟩ := hv
        exact lt_of_block hh2
      · rintro rfl
        have hp0 := hP.ne p (List.mem_of_getElem? hp)
        have hq0 := hP.ne q (List.mem_of_getElem? hq)
        have e1 := h2.cell (j := 0) (x := p.head hp0) (by rw [List.head_eq_getElem hp0]; exact List.getElem?_eq_getElem (List.length_pos_iff.2 hp0))
        have e2 := k2.cell (j := 0) (x := q.head hq0) (by rw [List.head_eq_getElem hq0]; exact List.getElem?_eq_getElem (List.length_pos_iff.2 hq0))
        rw [e1] at e2
        simp only [Option.some.injEq, Value.int.injEq, true_and] at e2
        have e3 : p.head hp0 = q.head hq0 := by omega
        have := hP.one k i p q (p.head hp0) hp hq (List.head_mem hp0) (by rw [e3]; exact List.head_mem hq0)
        omega
end
/-- The call gave these ready nodes' instances, in their order. -/
def RdPost (w : World) (r : List No) (e : Ending) (w' : World) : Prop := ∃ v o, e = .returned v ∧ RdO r o ∧ w'.ownsRow w.heap.size 25 2 v o.length (ics o) ∧ Below w.heap.size w w'
end Go.Proofs.YtgpciipemgljcaaGreat.Od

/-
  The walk of Ready. Conditions: at most 100 nodes, of which at most 30 count; at most 7 deps each; at most 1000 that were done.
-/
namespace Go.Proofs.YtgpciipemgljcaaGreat.Od
open Go.RowKit
open Go.Proofs.YtgpciipemgljcaaGreat.Gp (Off Ir Out Es Po)
set_option linter.unusedVariables false

set_option maxRecDepth 100000 in
set_option maxHeartbeats 4000000 in
theorem Ready_any (A : Option Addr) (c : Nat) (l : List No) (hl : l.length ≤ 100) (hc : l.length ≤ c) (Ad : Option Addr) (cd : Nat) (D : List Is) (hD : D.length ≤ 1000) (hf : Wf l) (hW : Wd D) (h7 : F7 l) (h30 : (cs l D).length ≤ 30) (w : World) (hs : Nl w w.heap.size A l) (hd : Dl w w.heap.size l) (hi : Il w w.heap.size Ad D) :
    Calls Tryz.prog 12 #[.slice A l.length c, .slice Ad D.length cd] w (RdPost w (rd (cs l D) D)) := by
  obtain ⟨i0, hi0, hz0, hz1, hz2⟩ := info_parts info25
  have HRe := Lib.hid (read_any A c l hl hc Ad cd D hD hf hW (fun n hn => by have := h7 n hn; omega) w hs hd hi)
  have HRy : ∀ V K Dm, Td V K Dm (ct l D) D → Below w.heap.size w V → Hid (Calls Tryz.prog 24 #[tv K Dm] V (NlPost V (rd (cs l D) D))) := fun V K Dm hT hB =>
    ready_any K Dm (ct l D) D (cs l D) (cf_ct (by omega)) (cs_rises l D) h30 (h7.cs D) (hf.sub fun n hn => cs_in hn) V hT ((hd.sub fun n hn => cs_in hn).to hB hB.size)
  have hrin : ∀ n ∈ rd (cs l D) D, n ∈ l := fun n hn => cs_in (rd_in hn)
  have HDr := Lib.hid (hd.sub hrin)
  have HWr := Lib.hid (hf.sub hrin)
  have hrl : (rd (cs l D) D).length ≤ 30 := Nat.le_trans (rdk_len _ _ _) h30
  have HRi := Lib.hid (rd_ri l D)
  generalize rd (cs l D) D = r at *
  have HEl := ee_len hrl
  have HEd := Lib.hid (ed_ee (c := r) (by omega))
  have HAm := Lib.hid (am_len (c := r) (by omega))
  clear hf hW h7 hs hd hi hrin
  go_enter Tryz.func12, Tryz.ntmps12
  go_wp2_with fail
  refine HRe.out.mono ?_
  rintro e w1 ⟨K, Dm, rfl, hT, B1⟩
  have HRy1 := HRy w1 K Dm hT B1
  clear HRe HRy hT
  go_wp2_with fail
  refine HRy1.out.mono ?_
  rintro e w2 ⟨v, rfl, ho, b2⟩
  obtain ⟨Ar, cr, rfl, hN, _⟩ := own_nl ho
  have B2 := B1.trans (b2.mono B1.size)
  have hx3 : Lx (w2.alloc (.cells #[.slice Ar r.length cr] 22)) w2.heap.size Ar r.length cr := heap_alloc_new _ _
  have b3 : Below w2.heap.size w2 (w2.alloc (.cells #[.slice Ar r.length cr] 22)) := (Below.refl _ _).alloc (Nat.le_refl _) _
  have HN3 := Lib.hid (hN.to b3 b3.size)
  have HB3 := Lib.hid (B2.trans (b3.mono B2.size))
  have hB5 : w2.heap.size < (w2.alloc (.cells #[.slice Ar r.length cr] 22)).heap.size := hx3.lt
  clear HRy1 ho hN B2 b2 b3 B1
  go_wp2_with fail
  generalize hS5 : w2.heap.size = S5 at *
  generalize w2.alloc (.cells #[.slice Ar r.length cr] 22) = W3 at *
  have HX3 := Lib.hid hx3
  have HC26 : ∀ V, (V.cell? ⟨S5, 0, none⟩ = some (.slice Ar r.length cr) ∧ Below W3.heap.size W3 V) → Hid (Calls Tryz.prog 26 #[.slice Ar r.length cr] V (EsPost V (ee r))) := fun V hV =>
    edges_any Ar cr r (by omega) HWr.out V (HN3.out.to hV.2 hV.2.size) (HDr.out.to (HB3.out.trans (hV.2.mono HB3.out.size)) (Nat.le_trans HB3.out.size hV.2.size))
  have HC25 : ∀ V Ae ce, Es V V.heap.size Ae (ee r) → Hid (Calls Tryz.prog 25 #[.int .i64 (r.length : Int), .slice Ae (ee r).length ce] V (Gp.OutPr V (r.length : Int) (ee r))) := fun V Ae ce hE =>
    Gp.ComponentsP_any (r.length : Int) Ae ce (ee r) HEl V hE
  have S0 : W3.cell? ⟨S5, 0, none⟩ = some (.slice Ar r.length cr) ∧ Below W3.heap.size W3 W3 := ⟨hx3.cell, Below.refl _ _⟩
  have KS : Hid (∀ v v', Below v.heap.size v v' → (v.cell? ⟨S5, 0, none⟩ = some (.slice Ar r.length cr) ∧ Below W3.heap.size W3 v) → (v'.cell? ⟨S5, 0, none⟩ = some (.slice Ar r.length cr) ∧ Below W3.heap.size W3 v')) := fun v v' hb hS =>
    ⟨(World.cell?_of_block (hb.block S5 (Nat.lt_of_lt_of_le hB5 hS.2.size))).trans hS.1, hS.2.trans (hb.mono hS.2.size)⟩
  have KD := Lib.hid (fun v hS => KS.out v v.drew (Below.refl _ _).drew hS)
  have c5 := hx3.cell
  clear hx3
  go_wp2_with fail
  go_region_held3 (fun v => v.cell? ⟨S5, 0, none⟩ = some (.slice Ar r.length cr) ∧ Below W3.heap.size W3 v)
    (first | (exact S0) | assumption | (exact KD.out _ S0) | (refine KS.out _ _ hb1 ?_; first | assumption | exact KD.out _ S0) | (refine KS.out _ _ hb2 ?_; first | assumption | exact KD.out _ S0) | (refine KD.out _ ?_; assumption))
    (first | (go_at_call 26; (with_reducible refine (HC26 _ ?_).out.mono ?_); (focus (first | assumption | exact KD.out _ S0)); rintro e wa ⟨Ae, ce, rfl, hEs, hb1⟩)
           | (go_at_call 25; (with_reducible refine (HC25 _ _ _ ?_).out.mono ?_); (focus (assumption)); rintro e wb ⟨out, hOut, Ao, co, bs, rfl, hPo, hb2⟩))
  rename_i hHeld
  rw [HEd.out, HAm.out] at hOut
  have HO := Lib.hid hOut
  have HP := Lib.hid (Pts.of (wg_in r) hOut)
  have hol : out.length ≤ r.length := hOut.len
  have HBb := Lib.hid hHeld.2
  have hPo' : Po W3.heap.size wb bs (.slice Ao out.length co) out := hPo.mono (by have := (KD.out W3 S0).2.size; exact Nat.le_trans this hb1.size)
  have HK0 := Lib.hid (Pk.of hPo')
  have HXb := Lib.hid ((HBb.out.block S5 hB5).trans HX3.out)
  have HNb := Lib.hid (HN3.out.below HBb.out (Nat.le_refl _))
  have hDb := HBb.out.size
  clear hOut hHeld hPo hPo' KS KD S0 HC25 HC26 hEs hb1 hb2 c5 HEd HAm
  go_wp2
  go_loopg [6, 21] out.length (fun q v t W => ∃ k : Nat, k + q = out.length ∧ t = .int .i64 (k : Int) ∧ Hid (W.ownsRow wb.heap.size 25 2 v (odk r out k).length (ics (odk r out k))) ∧ Hid (Pk W3.heap.size wb.heap.size W bs (.slice Ao out.length co) out k) ∧ Hid (Below W3.heap.size wb W))
  case atStart => exact ⟨0, by omega, rfl, by rw [odk_zero]; exact World.ownsRow_nil _ _ _ _, HK0.out, Below.refl _ _⟩
  case round =>
    clear HK0
    obtain ⟨k, hk, rfl, hown, hPk, hB⟩ := hrel
    by_cases hlt : k < out.length
    · have hki : (k : Int) < (out.length : Int) := by omega
      have hk0 : (0 : Int) ≤ (k : Int) := by omega
      have HX := Lib.hid (List.getElem?_eq_getElem hlt)
      have hmem := List.getElem_mem hlt
      obtain ⟨bv, cv, g, cp, ev, hcell, hIr, hDg, hgE, hNx⟩ := hPk.out.at_ HP.out HX.out
      simp only [Value.slice.injEq, true_and] at ev
      obtain ⟨rfl, rfl⟩ := ev
      have hpl := HP.out.len _ hmem
      have HSo := Lib.hid (sortp_any r HRi.out W3.heap.size S5 Ar cr g cp out[k] (HP.out.ne _ hmem) (HP.out.inn _ hmem) (HP.out.nd _ hmem) (by omega) hDg hB5 wr (Nat.le_trans hDb hB.out.size) hIr ((hB.out.block S5 hB5).trans HXb.out) (HNb.out.below hB.out (Nat.le_refl _)))
      have HOk := Lib.hid (odk_succ (r := r) HX.out)
      have hkl := odk_len (r := r) HP.out.len k
      have hin := HP.out.inn _ hmem
      have HNx := Lib.hid hNx
      generalize out[k] = p at *
      clear hIr hPk hNx
      go_wp2_with fail
      refine HSo.out.mono ?_
      rintro e w5 ⟨rfl, p', hpp, hso, hIr', hOff⟩
      have hpl' := hpp.length_eq
      have HB5 := Lib.hid (hB.out.trans (hOff.below (D := W3.heap.size) (by rintro r rfl; exact hDg) (Nat.le_trans hDb hB.out.size)))
      have HO5 := Lib.hid (own_on (W' := w5) hown.out fun r hr => hOff.block r (hown.out.lt r hr).2 (by have := (hown.out.lt r hr).1; omega))
      have HP5 := Lib.hid (HNx.out w5 hOff)
      have HI5 := Lib.hid hIr'
      have HS5 := Lib.hid hso
      have HIN : Hid (∀ x ∈ p', x < r.length) := fun x hx => hin x (hpp.mem_iff.1 hx)
      have hE5 : wb.heap.size ≤ w5.heap.size := HB5.out.size
      clear hown hB HSo hpp hso hIr' hOff HNx hin
      go_wp2
      go_loopg [6, 30] p.length (fun q v t W => ∃ j : Nat, j + q = p.length ∧ t = .int .i64 (j : Int) ∧ Hid (W.ownsRow wb.heap.size 25 2 v (odk r out k ++ (pn r (p'.take j)).map No.i).length (ics (odk r out k ++ (pn r (p'.take j)).map No.i))) ∧ Hid (Below wb.heap.size w5 W))
      case atStart => exact ⟨0, by omega, rfl, by show World.ownsRow _ _ _ _ _ _ _; simpa [pn] using HO5.out, Below.refl _ _⟩
      case round =>
        clear HO5
        obtain ⟨j, hj, rfl, hown, hB6⟩ := hrel
        by_cases hjt : j < p.length
        · have hji : (j : Int) < (p.length : Int) := by omega
          have hj0 : (0 : Int) ≤ (j : Int) := by omega
          have hjl : j < p'.length := by omega
          have HJ := Lib.hid (List.getElem?_eq_getElem hjl)
          have hx := HIN.out _ (List.getElem_mem hjl)
          generalize p'[j] = x at *
          have cI := (Ir.same HI5.out (hB6.out.block g hgE)).cell HJ.out
          have HR := Lib.hid (List.getElem?_eq_getElem hx)
          have HT := Lib.hid (pn_take HJ.out HR.out)
          have BW6 : Below W3.heap.size wb wr := HB5.out.trans (hB6.out.mono hDb)
          obtain ⟨br, off, rfl, hbr, q0, q1, q2, q3⟩ := (HNb.out.below BW6 (Nat.le_refl _)).at_ HR.out
          have c5 := Lx.cell ((BW6.block S5 hB5).trans HXb.out)
          have hpj : (odk r out k ++ (pn r (p'.take j)).map No.i).length ≤ 1000 := by
            rw [List.length_append, List.length_map]
            have h1 := pn_len r (p'.take j)
            have h2 : k * r.length ≤ 30 * 30 := Nat.mul_le_mul (by omega) hrl
            rw [List.length_take] at h1
            omega
          have hxi : (x : Int) < (r.length : Int) := by omega
          have hx0 : (0 : Int) ≤ (x : Int) := by omega
          generalize r[x] = n at *
          obtain ⟨nb, ns, nq, nd, nh, nc⟩ := n
          simp only at *
          have H10 := Lib.hid (hown.out.alloc (io (nb, ns)))
          have HB7 := Lib.hid (hB6.out.alloc (Nat.le_trans hE5 hB6.out.size) (io (nb, ns)))
          have hsz := Nat.le_trans hE5 hB6.out.size
          simp only [io] at H10 HB7
          clear hown hB6 BW6
          go_wp2_with (at_builtin; refine wpList_append_own_at _ rfl _ _ 23 rfl wb.heap.size 25 i0 (.agg #[.int .i64 0, .int .i64 0]) 2 16 Tryz.underlying23 hi0 hz0 hz1 hz2 rfl (by decide) _ (odk r out k ++ (pn r (p'.take j)).map No.i).length (ics (odk r out k ++ (pn r (p'.take j)).map No.i)) rfl H10.out ⟨wr.heap.size, 0, none⟩ 1 1 [.int .i64 nb, .int .i64 ns] rfl rfl (cell_two_new _ _ _ _) (by simp [Value.oneCell']) (by unfold maxLen; omega) (by omega) (by simp; omega) ?_; intro v' w9 hown9 hgrow9 _ hat9)
          have HB9 := Lib.hid (HB7.out.grown hgrow9 (Nat.le_trans hE5 HB7.out.size) (fun r hr => (H10.out.lt r hr).1))
          have H11 : Hid (w9.ownsRow wb.heap.size 25 2 v' (odk r out k ++ (pn r (p'.take (j + 1))).map No.i).length (ics (odk r out k ++ (pn r (p'.take (j + 1))).map No.i))) := by
            show World.ownsRow _ _ _ _ _ _ _
            rw [HT.out, List.map_append, ← List.append_assoc, List.length_append, ics_append]
            exact hown9
          clear hown9 hgrow9 H10 HB7
          go_wp2
          go_roundg (p.length - (j + 1))
          case measure => omega
          case rel => exact ⟨j + 1, by omega, by go_num, H11.out, HB9.out⟩
        · obtain rfl : j = p.length := by omega
          have H8 : Hid (wr.ownsRow wb.heap.size 25 2 u6 (odk r out (k + 1)).length (ics (odk r out (k + 1)))) := by
            show World.ownsRow _ _ _ _ _ _ _
            have h1 := hown.out
            rw [List.take_of_length_le (by omega), HS5.out, ← HOk.out] at h1
            exact h1
          have HP9 := Lib.hid (HP5.out.on hB6.out)
          have HB9 := Lib.hid (HB5.out.trans (hB6.out.mono hDb))
          clear hown hB6 HP5 HB5
          go_wp2
          go_roundg (out.length - (k + 1))
          case measure => omega
          case rel => exact ⟨k + 1, by omega, by go_num, H8.out, HP9.out, HB9.out⟩
    · obtain rfl : k = out.length := by omega
      have hww : w.heap.size ≤ wb.heap.size := Nat.le_trans HB3.out.size hDb
      have HX : Hid (wr.ownsRow w.heap.size 25 2 u6 ((od r out).map No.i).length (ics ((od r out).map No.i))) := by
        show World.ownsRow _ _ _ _ _ _ _
        have h1 := hown.out.mono hww
        rw [odk_all] at h1
        exact h1
      have HBX := Lib.hid (HB3.out.trans ((HBb.out.trans hB.out).mono HB3.out.size))
      have HRd : Hid (RdO r ((od r out).map No.i)) := ⟨out, HO.out, rfl⟩
      go_wp2
      go_ret
      exact ⟨_, _, rfl, HRd.out, HX.out, HBX.out⟩
end Go.Proofs.YtgpciipemgljcaaGreat.Od

/-
  What is missing, told of merged attributes; rows of attributes of the call's own. No program's function is walked here. Conditions: at most 7 near deps.
-/
namespace Go.Proofs.YtgpciipemgljcaaGreat.Od
open Go.RowKit
set_option linter.unusedVariables false

theorem mq_rises (xs : List Int) (kn : Is → Bool) (k : Nat) : (mq xs kn k).Pairwise il := by
  induction k with
  | zero => simp [mq]
  | succ k ih =>
    rw [mq_succ, List.pairwise_append]
    refine ⟨ih, ?_, fun a ha b hb => .inl ?_⟩
    · unfold mqr
      exact (axr_rises _ _).filter _
    · have h1 := (mem_mq.1 ha).1
      unfold mqr at hb
      have h2 := mem_axr.1 (List.mem_filter.1 hb).1
      omega
theorem dm_ge {l : List (Int × List Int)} {i : Nat} {s : Int} (hs : 1 ≤ s) : s ≤ At.dm l i ↔ ∃ r ∈ l, s ≤ r.2.getD i 0 := by
  refine At.snoc_ind (P := fun l => s ≤ At.dm l i ↔ ∃ r ∈ l, s ≤ r.2.getD i 0) ?_ (fun l x ih => ?_) l
  · simp [At.dm]; omega
  · rw [At.dm_snoc]
    constructor
    · intro h
      rcases Int.le_total (At.dm l i) (x.2.getD i 0) with k | k
      · exact ⟨x, by simp, by omega⟩
      · obtain ⟨r, hr, h2⟩ := ih.1 (by omega)
        exact ⟨r, List.mem_append_left _ hr, h2⟩
    · rintro ⟨r, hr, h2⟩
      rcases List.mem_append.1 hr with h | h
      · have := ih.2 ⟨r, h, h2⟩; omega
      · simp only [List.mem_singleton] at h
        subst h; omega
def ats (ys : List No) : List (Int × List Int) := ys.map fun n => (n.q, n.d)
theorem mq_ms {c ys : List No} {D : List Is} (hm : ∀ n, n ∈ ys ↔ n ∈ c) (hn : ∀ x ∈ c, nr x = true ∧ x.d.length ≤ 7) : mq (At.mg (ats ys)) (kn c D) (At.mg (ats ys)).length = ms c D := by
  refine same_of_rises (R := il) (fun x y h k => il_asym h k) (mq_rises _ _ _) (ms_rises _ _) fun i => ?_
  rw [mem_mq, mem_ms, mp_iff, At.mg_at]
  constructor
  · rintro ⟨⟨h1, h2, h3, h4⟩, h5⟩
    obtain ⟨r, hr, h6⟩ := (dm_ge h3).1 h4
    simp only [ats, List.mem_map] at hr
    obtain ⟨n, hny, rfl⟩ := hr
    have hnc := (hm n).1 hny
    have hw : wa n i = true := At.wt_iff.2 (by rw [At.dp_in h1]; exact ⟨h3, h6⟩)
    exact ⟨wa_ax (hn n hnc).1 (hn n hnc).2 hw, ⟨n, hnc, hw⟩, h5⟩
  · rintro ⟨_, ⟨n, hnc, hw⟩, h5⟩
    have h1 := wa_dep hw
    have hmem : (n.q, n.d) ∈ ats ys := List.mem_map.2 ⟨n, (hm n).2 hnc, rfl⟩
    have h2 := At.lg_le (ats ys) _ hmem
    simp only at h2
    rw [At.mg_len]
    exact ⟨⟨h1.2.1, by omega, h1.1, (dm_ge h1.1).2 ⟨_, hmem, h1.2.2.2.2⟩⟩, h5⟩
theorem ats_lg {c ys : List No} (hm : ∀ n, n ∈ ys ↔ n ∈ c) (hn : ∀ x ∈ c, nr x = true ∧ x.d.length ≤ 7) : At.lg (ats ys) ≤ 7 := At.lg_bd _ fun r hr => by
  simp only [ats, List.mem_map] at hr
  obtain ⟨n, hny, rfl⟩ := hr
  exact (hn n ((hm n).1 hny)).2
theorem ats_mg {c ys : List No} (hm : ∀ n, n ∈ ys ↔ n ∈ c) (hn : ∀ x ∈ c, nr x = true ∧ x.d.length ≤ 7) : ∀ x ∈ At.mg (ats ys), x ≤ 1000 := fun x hx => by
  simp only [At.mg, List.mem_map, List.mem_range] at hx
  obtain ⟨i, _, rfl⟩ := hx
  by_cases h : 61 ≤ At.dm (ats ys) i
  · obtain ⟨r, hr, h2⟩ := (dm_ge (by omega)).1 h
    simp only [ats, List.mem_map] at hr
    obtain ⟨n, hny, rfl⟩ := hr
    have h3 := (nr_iff.1 (hn n ((hm n).1 hny)).1).2.2.2.2
    by_cases hi : i < n.d.length
    · have := h3 (n.d.getD i 0) (by rw [List.getD_eq_getElem?_getD, List.getElem?_eq_getElem hi]; exact List.getElem_mem hi)
      simp only at h2
      omega
    · simp only [At.getD_out (by omega : n.d.length ≤ i)] at h2
      omega
  · omega

/-- The cells of attributes. -/
def acs : List No → List Value
  | [] => []
  | n :: l => .int .i64 n.q :: .slice n.h n.d.length n.c :: acs l
theorem acs_len : ∀ l, (acs l).length = l.length * 2
  | [] => rfl
  | x :: l => by simp only [acs, List.length_cons, acs_len l]; omega
theorem acs_append : ∀ l m, acs (l ++ m) = acs l ++ acs m
  | [], m => rfl
  | x :: l, m => by simp [acs, acs_append l m]
theorem acs_at : ∀ (l : List No) (i : Nat) (x : No), l[i]? = some x → (acs l)[i * 2]? = some (.int .i64 x.q) ∧ (acs l)[i * 2 + 1]? = some (.slice x.h x.d.length x.c)
  | [], i, x, h => by simp at h
  | y :: l, 0, x, h => by simp at h; subst h; exact ⟨rfl, rfl⟩
  | y :: l, i + 1, x, h => by
    rw [show (i + 1) * 2 = i * 2 + 2 by omega]
    exact acs_at l i x (by simpa using h)
theorem own_rc {w : World} {base : Nat} {v : Value} {l : List No} (h : w.ownsRow base 28 2 v l.length (acs l)) (hd : Dl w w.heap.size l) : ∃ A c, v = .slice A (ats l).length c ∧ At.Rc w w.heap.size A (ats l) := by
  have e : (ats l).length = l.length := by simp [ats]
  rw [e]
  rcases h.2 with ⟨h1, h2⟩ | ⟨g, cap, cur, h1, _⟩
  · exact ⟨none, 0, by rw [h1, h2], .inl (by rw [List.length_eq_zero_iff.1 h2]; rfl)⟩
  · subst h1
    refine ⟨_, cap, rfl, .inr ⟨g, 0, rfl, (h.lt g rfl).2, fun i r hr => ?_⟩⟩
    simp only [ats, List.getElem?_map] at hr
    rcases hx : l[i]? with _ | x
    · rw [hx] at hr; cases hr
    · rw [hx] at hr
      simp only [Option.map_some, Option.some.injEq] at hr
      subst hr
      have hc : ∀ j u, (acs l)[j]? = some u → w.cell? ⟨g, 0 + j, none⟩ = some u := fun j u hu => by
        have := h.cells (g := g) rfl j u hu
        rwa [Addr.add_lit] at this
      obtain ⟨q0, q1⟩ := acs_at l i x hx
      exact ⟨hc _ _ q0, x.h, x.c, hc _ _ q1, hd x (List.mem_of_getElem? hx)⟩
theorem own_not {w : World} {base n k B : Nat} {v : Value} {l : List Value} {e : TypeId} {o : Obj} (h : w.ownsRow base e k v n l) (hB : w.heap[B]? = some o) (hne : o.isCells = false) : ∀ r, v.ownBlock = some r → r ≠ B := by
  rcases h.2 with ⟨rfl, _⟩ | ⟨g', cap, cur', rfl, _, hh, _⟩
  · intro r hr; cases hr
  · intro r hr
    cases hr
    rintro rfl
    rw [hh] at hB
    cases hB
    cases hne
theorem Td.grown {w w' : World} {K D : Nat} {cf : Is → Option No} {Dn : List Is} {base n k : Nat} {v : Value} {l : List Value} {e : TypeId} (h : Td w K D cf Dn) (ho : w.ownsRow base e k v n l) (hg : w.grownBy w' v.ownBlock) : Td w' K D cf Dn := by
  refine h.same (hg.block K h.kl fun e' => ?_) (hg.block D h.dl fun e' => ?_)
  · obtain ⟨c, es, cl, hh, _⟩ := h.k
    exact own_not ho hh rfl K e'.symm rfl
  · obtain ⟨c, es, cl, hh, _⟩ := h.d
    exact own_not ho hh rfl D e'.symm rfl
theorem Tx.grown {w w' : World} {B : Nat} {a b : Option Nat} {base n k : Nat} {v : Value} {l : List Value} {e : TypeId} (h : Tx w B a b) (ho : w.ownsRow base e k v n l) (hg : w.grownBy w' v.ownBlock) (hne : (51 : TypeId) ≠ e) : Tx w' B a b :=
  (hg.block B h.lt fun e' => own_apart ho h hne B e'.symm rfl).trans h
/-- The call gave an iterator over what is missing. -/
def MiPost (w : World) (K D : Nat) (q : Int) (A : Option Addr) (c : Nat) (xs : List Int) (cf : Is → Option No) (Dn : List Is) (e : Ending) (w' : World) : Prop :=
  ∃ Ba Bt, e = .returned (.func (.func 65) #[] #[.pointer (some ⟨Ba, 0, none⟩), .pointer (some ⟨Bt, 0, none⟩)]) ∧ Mi w' w'.heap.size Ba Bt K D q A c xs cf Dn ∧ Below w.heap.size w w'
theorem missing2_any (K D : Nat) (q : Int) (A : Option Addr) (c : Nat) (xs : List Int) (cf : Is → Option No) (Dn : List Is) (w : World) (hT : Td w K D cf Dn) (hs : At.Sl w w.heap.size .i64 A xs) :
    Calls Tryz.prog 37 #[tv K D, .agg #[.int .i64 q, .slice A xs.length c]] w (MiPost w K D q A c xs cf Dn) := by
  refine (missing_any K D q A xs.length c w).mono ?_
  rintro e w' ⟨rfl, rfl⟩
  have B0 : Below w.heap.size w ((w.alloc (.cells #[.map (some K), .map (some D)] 51)).alloc (.cells #[.int .i64 q, .slice A xs.length c] 28)) := ((Below.refl _ _).alloc (Nat.le_refl _) _).alloc (by simp) _
  refine ⟨w.heap.size + 1, w.heap.size, rfl, ⟨?_, ?_, hT.up B0, hs.to B0 B0.size, by simp, by simp; omega, ?_, ?_, Nat.le_refl _⟩, B0⟩
  · have := heap_alloc_new (w.alloc (.cells #[.map (some K), .map (some D)] 51)) (.cells #[.int .i64 q, .slice A xs.length c] 28)
    simpa using this
  · exact (heap_alloc_old _ _ (by simp)).trans (heap_alloc_new _ _)
  · have := hT.kl; simp; omega
  · have := hT.dl; simp; omega
end Go.Proofs.YtgpciipemgljcaaGreat.Od

/-
  The walk of Merge: what many are together. Conditions: at most 1000 attributes of at most 1000 deps.
-/
namespace Go.Proofs.YtgpciipemgljcaaGreat.At
open Go.RowKit
set_option linter.unusedVariables false

/-- A box of the call's own that holds an attribute, to be written to. -/
def Ax (w : World) (B : Nat) (a : Int) (A : Option Addr) (n c : Nat) : Prop := w.heap[B]? = some (.cells #[.int .i64 a, .slice A n c] 28 (0, 0))
theorem Ax.rb {w : World} {B : Nat} {a : Int} {A : Option Addr} {n c : Nat} (h : Ax w B a A n c) : Rb w B a A n c :=
  ⟨by rw [cell_of_row w B 0 _ 28 _ h]; rfl, by rw [cell_of_row w B 1 _ 28 _ h]; rfl⟩
theorem Ax.free {w : World} {B : Nat} {a : Int} {A : Option Addr} {n c : Nat} (h : Ax w B a A n c) (i : Nat) : w.frozen? ⟨B, i, none⟩ = false := Lib.frozen_of_heap h i
theorem Ax.lt {w : World} {B : Nat} {a : Int} {A : Option Addr} {n c : Nat} (h : Ax w B a A n c) : B < w.heap.size := lt_of_block h
theorem ax_new (w : World) (a : Int) (A : Option Addr) (n c : Nat) : Ax (w.alloc (.cells #[.int .i64 a, .slice A n c] 28)) w.heap.size a A n c := heap_alloc_new w _
theorem Ax.old {w : World} {B : Nat} {a : Int} {A : Option Addr} {n c : Nat} (h : Ax w B a A n c) (o : Obj) : Ax (w.alloc o) B a A n c := (heap_alloc_old w o h.lt).trans h
theorem Ax.other {w : World} {B : Nat} {a : Int} {A : Option Addr} {n c : Nat} (h : Ax w B a A n c) {p : Addr} (hne : B ≠ p.block) (v : Value) : Ax (w.setCell p v) B a A n c := (Below.heap_setCell w p v B hne).trans h
theorem Ax.on {w w' : World} {B D : Nat} {a : Int} {A : Option Addr} {n c : Nat} (h : Ax w B a A n c) (hb : Below D w w') (hlt : B < D) : Ax w' B a A n c := (hb.block B hlt).trans h
theorem Ax.set0 {w : World} {B : Nat} {a : Int} {A : Option Addr} {n c : Nat} (h : Ax w B a A n c) (a' : Int) : Ax (w.setCell ⟨B, 0, none⟩ (.int .i64 a')) B a' A n c := heap_setCell_same w B 0 _ 28 _ h
theorem Ax.set1 {w : World} {B : Nat} {a : Int} {A : Option Addr} {n c : Nat} (h : Ax w B a A n c) (A' : Option Addr) (n' c' : Nat) : Ax (w.setCell ⟨B, 1, none⟩ (.slice A' n' c')) B a A' n' c' := heap_setCell_same w B 1 _ 28 _ h

/-- A box that holds an instance. -/
def Ix (w : World) (B : Nat) (x y : Int) : Prop := w.heap[B]? = some (.cells #[.int .i64 x, .int .i64 y] 25 (0, 0))
theorem Ix.ib {w : World} {B : Nat} {x y : Int} (h : Ix w B x y) : Ib w B x y := ⟨by rw [cell_of_row w B 0 _ 25 _ h]; rfl, by rw [cell_of_row w B 1 _ 25 _ h]; rfl⟩
theorem ix_new (w : World) (x y : Int) : Ix (w.alloc (.cells #[.int .i64 x, .int .i64 y] 25)) w.heap.size x y := heap_alloc_new w _
theorem Ix.old {w : World} {B : Nat} {x y : Int} (h : Ix w B x y) (o : Obj) : Ix (w.alloc o) B x y := (heap_alloc_old w o (lt_of_block h)).trans h

/-- A row of the call's own that holds integers, to be written to. -/
def Rx (w : World) (g : Nat) (ys : List Int) : Prop := w.heap[g]? = some (.cells (ys.map (Value.int .i64)).toArray 3 (0, 0))
theorem Rx.cell {w : World} {g : Nat} {ys : List Int} (h : Rx w g ys) {j : Nat} (hj : j < ys.length) : w.cell? ⟨g, j, none⟩ = some (.int .i64 (ys.getD j 0)) := by
  rw [cell_of_row w g j _ 3 _ h]
  simp [List.getD, hj]
theorem Rx.free {w : World} {g : Nat} {ys : List Int} (h : Rx w g ys) (i : Nat) : w.frozen? ⟨g, i, none⟩ = false := Lib.frozen_of_heap h i
theorem Rx.lt {w : World} {g : Nat} {ys : List Int} (h : Rx w g ys) : g < w.heap.size := lt_of_block h
theorem Rx.old {w : World} {g : Nat} {ys : List Int} (h : Rx w g ys) (o : Obj) : Rx (w.alloc o) g ys := (heap_alloc_old w o h.lt).trans h
theorem Rx.other {w : World} {g : Nat} {ys : List Int} (h : Rx w g ys) {p : Addr} (hne : g ≠ p.block) (v : Value) : Rx (w.setCell p v) g ys := (Below.heap_setCell w p v g hne).trans h
theorem Rx.set {w : World} {g : Nat} {ys : List Int} (h : Rx w g ys) (j : Nat) (x : Int) : Rx (w.setCell ⟨g, j, none⟩ (.int .i64 x)) g (ys.set j x) := by
  have := heap_setCell_same w g j _ 3 (.int .i64 x) h
  unfold Rx
  rw [this, List.map_set, List.setIfInBounds_toArray]
theorem Rx.sl {w : World} {g : Nat} {ys : List Int} (h : Rx w g ys) : Sl w w.heap.size .i64 (some ⟨g, 0, none⟩) ys :=
  .inr ⟨g, 0, rfl, h.lt, fun j x hx => by
    have hj : j < ys.length := (List.getElem?_eq_some_iff.1 hx).1
    rw [Nat.zero_add, h.cell hj]
    simp [List.getD, hx]⟩
theorem rx_made {w : World} {base g n : Nat} {ys : List Int} (h : w.ownsRow base 3 1 (.slice (some ⟨g, 0, none⟩) n n) n (ys.map (Value.int .i64))) : Rx w g ys := by
  rcases h.2 with ⟨h0, _⟩ | ⟨g', cap, cur, hv, _, hh, _, _, hcs, ht⟩
  · cases h0
  · simp only [Value.slice.injEq, Option.some.injEq, Addr.mk.injEq] at hv
    obtain ⟨⟨rfl, _⟩, _, rfl⟩ := hv
    rw [List.take_of_length_le (by simp [hcs])] at ht
    unfold Rx
    rw [hh, ← ht]
theorem made_ints (k : Nat) : (madeCells (Value.int .i64 0).cells (k * 1)).toList = (List.replicate k (0 : Int)).map (Value.int .i64) := by
  rw [Nat.mul_one]
  show (madeCells #[.int .i64 0] k).toList = _
  rw [toList_madeCells_one]
  simp
theorem info3 : (Tryz.prog.info? 3).map (fun i => (i.zero, i.size, i.bytes)) = some (some (.int .i64 0), 1, 8) := by kernel_rfl

/-- What the row holds in the midst of one attribute. -/
def Mid (l : List (Int × List Int)) (k j : Nat) (xs : List Int) (ys : List Int) : Prop := ∀ i, ys.getD i 0 = if i < j then max (dm (l.take k) i) (xs.getD i 0) else dm (l.take k) i
theorem mid_zero {l : List (Int × List Int)} {k : Nat} {xs ys : List Int} (h : ∀ i, ys.getD i 0 = dm (l.take k) i) : Mid l k 0 xs ys := fun i => by rw [if_neg (by omega)]; exact h i
theorem mid_step {l : List (Int × List Int)} {k j : Nat} {xs ys : List Int} (h : Mid l k j xs ys) (hj : j < ys.length) : Mid l k (j + 1) xs (ys.set j (max (ys.getD j 0) (xs.getD j 0))) := fun i => by
  by_cases hi : i = j
  · subst hi
    rw [if_pos (by omega)]
    have := h i
    rw [if_neg (by omega)] at this
    rw [← this]
    simp [List.getD, hj]
  · have e : (ys.set j (max (ys.getD j 0) (xs.getD j 0))).getD i 0 = ys.getD i 0 := by
      simp only [List.getD]
      rw [List.getElem?_set_ne (by omega)]
    rw [e, h i]
    by_cases h2 : i < j
    · rw [if_pos h2, if_pos (by omega)]
    · rw [if_neg h2, if_neg (by omega)]
theorem mid_end {l : List (Int × List Int)} {k : Nat} (hk : k < l.length) {ys : List Int} (h : Mid l k (l[k]).2.length (l[k]).2 ys) : ∀ i, ys.getD i 0 = dm (l.take (k + 1)) i := fun i => by
  rw [h i, dm_take l k hk]
  split
  · rfl
  · rw [getD_out (by omega)]
    have := dm_nn (l.take k) i
    omega

theorem run_res19 {V : World} {tm : Array Value} {B : Nat} {a : Int} {A : Option Addr} {n c : Nat} (h2 : tm[2]?.getD undef = .pointer (some ⟨B, 0, none⟩)) (hb : Rb V B a A n c) :
    (results Tryz.f38 tm).run Tryz.prog V = .ok (.agg #[.int .i64 a, .slice A n c]) V := by
  obtain ⟨c0, c1⟩ := hb
  simp [results, Tryz.results38, h2, go_sem, c0, c1]

set_option maxHeartbeats 4000000 in
theorem merge_any (A : Option Addr) (c : Nat) (l : List (Int × List Int)) (w : World) (hl : l.length ≤ 1000) (hn : lg l ≤ 1000) (hs : Rc w w.heap.size A l) : Calls Tryz.prog 38 #[.slice A l.length c] w (AtPost w (sq l) (mg l)) := by
  obtain ⟨i0, hi, hz0, hz1, hz2⟩ := info_parts info3
  have BN : Below w.heap.size w (w.alloc (.cells #[.int .i64 0, .slice none 0 0] 28)) := (Below.refl _ _).alloc (Nat.le_refl _) _
  have HL : Hid (Calls Tryz.prog 66 #[.slice A l.length c] (w.alloc (.cells #[.int .i64 0, .slice none 0 0] 28)) (IntPost (w.alloc (.cells #[.int .i64 0, .slice none 0 0] 28)) (lg l))) := long_any A c l _ hl ((hs.below BN).mono BN.size)
  have X0 := ax_new w 0 none 0 0
  have ZN : (w.alloc (.cells #[.int .i64 0, .slice none 0 0] 28)).heap.size = w.heap.size + 1 := by simp
  have HLE : Hid (∀ r ∈ l, r.2.length ≤ lg l) := lg_le l
  generalize hnn : lg l = n at *
  have HNN := Lib.hid hnn
  clear hnn
  go_enter Tryz.func38, Tryz.ntmps38
  go_wp2_with fail
  generalize w.alloc (.cells #[.int .i64 0, .slice none 0 0] 28) = W0 at *
  refine HL.out.mono ?_
  rintro e w1 ⟨rfl, B1⟩
  have z1 := B1.size
  have X1 := X0.on B1 (by omega)
  have Bw1 := BN.trans (B1.mono BN.size)
  have hbase : w.heap.size ≤ w1.heap.size := by omega
  go_wp2_with (at_make; refine wpList_make_full _ rfl _ _ 26 rfl w.heap.size 3 i0 (.int .i64 0) 1 Tryz.underlying26 hi hz0 hz1 _ _ _ _ n rfl rfl rfl rfl (by rw [hz2]; omega) (by unfold maxLen; omega) hbase ?_; intro w2 hown2 hgrow2)
  have Bw2 := Bw1.grown hgrow2 hbase (by simp)
  rw [made_ints] at hown2
  have R2 := rx_made hown2
  have X2 : Ax w2 w.heap.size 0 none 0 0 := (hgrow2.block w.heap.size (by omega) (by simp)).trans X1
  have hg := hown2.lt w1.heap.size rfl
  have hg2 := R2.lt
  have M2 := ax_new w2 0 (some ⟨w1.heap.size, 0, none⟩) n n
  have R3 := R2.old (.cells #[.int .i64 0, .slice (some ⟨w1.heap.size, 0, none⟩) n n] 28)
  have X3 := X2.old (.cells #[.int .i64 0, .slice (some ⟨w1.heap.size, 0, none⟩) n n] 28)
  have Bw3 := Bw2.alloc Bw2.size (.cells #[.int .i64 0, .slice (some ⟨w1.heap.size, 0, none⟩) n n] 28)
  have hgw : w.heap.size < w1.heap.size := by omega
  have hMg : w1.heap.size < w2.heap.size := hg2
  clear R2 X2 hown2 hgrow2 hg X1 X0 B1 BN HL Bw1 Bw2 hi hz0 hz1 hz2 ZN z1
  generalize w1.heap.size = g at *
  generalize w2.heap.size = M at *
  generalize w2.alloc (.cells #[.int .i64 0, .slice (some ⟨g, 0, none⟩) n n] 28) = W3 at *
  go_loopw [14] (fun i wr => ∃ (k : Nat) (ys : List Int), k ≤ l.length ∧ i = .int .i64 (k : Int) ∧ Ax wr M (sq (l.take k)) (some ⟨g, 0, none⟩) n n ∧ Rx wr g ys ∧ Ax wr w.heap.size 0 none 0 0 ∧ ys.length = n ∧ (∀ i, ys.getD i 0 = dm (l.take k) i) ∧ Below w.heap.size w wr) (fun i _ => l.length - (intOf i).toNat)
  case atStart => exact ⟨0, List.replicate n 0, by omega, rfl, M2, R3, X3, by simp, fun i => by simp [dm, List.getD, List.getElem?_replicate]; split <;> rfl, Bw3⟩
  case round =>
    obtain ⟨k, ys, hk, rfl, hM, hR, hX, hyl, hyd, hbel⟩ := hrel
    have HYL := Lib.hid hyl
    have HYD := Lib.hid hyd
    clear hyl hyd M2 R3 X3 Bw3
    have hsz := hbel.size
    have hMl := hM.lt
    by_cases hlt : k < l.length
    · obtain ⟨b, off, A', c', rfl, hb, x0, x1, hsx⟩ := (hs.below hbel).at_ hlt
      have hxl := HLE.out l[k] (List.getElem_mem hlt)
      have HQ := Lib.hid (sq_take l k hlt)
      have HE := Lib.hid (fun ys => mid_end (l := l) hlt (ys := ys))
      have hki : (k : Int) < (l.length : Int) := by omega
      generalize l[k] = r at *
      obtain ⟨a, xs⟩ := r
      simp only at x0 x1 hxl HQ HE hsx
      generalize sq (l.take k) = s at *
      obtain ⟨p0, p1⟩ := hM.rb
      have f0 := hM.free 0
      go_wp2
      have M1 : Ax ((wr.setCell ⟨M, 0, none⟩ (.int .i64 (max s a))).alloc (.cells #[.int .i64 a, .slice A' xs.length c'] 28)) M (max s a) (some ⟨g, 0, none⟩) n n := (hM.set0 _).old _
      have R1 : Rx ((wr.setCell ⟨M, 0, none⟩ (.int .i64 (max s a))).alloc (.cells #[.int .i64 a, .slice A' xs.length c'] 28)) g ys := (hR.other (by show g ≠ M; omega) _).old _
      have X1 : Ax ((wr.setCell ⟨M, 0, none⟩ (.int .i64 (max s a))).alloc (.cells #[.int .i64 a, .slice A' xs.length c'] 28)) w.heap.size 0 none 0 0 := (hX.other (by show w.heap.size ≠ M; omega) _).old _
      have E1 : Below w.heap.size w ((wr.setCell ⟨M, 0, none⟩ (.int .i64 (max s a))).alloc (.cells #[.int .i64 a, .slice A' xs.length c'] 28)) := (hbel.setCell (by show w.heap.size ≤ M; omega) _).alloc (by simpa using hsz) _
      have S1 : Sl ((wr.setCell ⟨M, 0, none⟩ (.int .i64 (max s a))).alloc (.cells #[.int .i64 a, .slice A' xs.length c'] 28)) w.heap.size .i64 A' xs := hsx.below (((Below.refl _ _).setCell (by show w.heap.size ≤ M; omega) _).alloc (by simpa using hsz) _)
      have S2 : Hid (∀ W, Below w.heap.size ((wr.setCell ⟨M, 0, none⟩ (.int .i64 (max s a))).alloc (.cells #[.int .i64 a, .slice A' xs.length c'] 28)) W → Sl W w.heap.size .i64 A' xs) := fun W hW => S1.below hW
      clear hM hR hX hbel hsx x0 x1 p0 p1 f0 hs
      have MD : Hid (Mid l k 0 xs ys) := mid_zero HYD.out
      generalize ((wr.setCell ⟨M, 0, none⟩ (.int .i64 (max s a))).alloc (.cells #[.int .i64 a, .slice A' xs.length c'] 28)) = W4 at *
      go_loopw [27] (fun i wr => ∃ (j : Nat) (ys : List Int), j ≤ xs.length ∧ i = .int .i64 (j : Int) ∧ Ax wr M (max s a) (some ⟨g, 0, none⟩) n n ∧ Rx wr g ys ∧ Ax wr w.heap.size 0 none 0 0 ∧ ys.length = n ∧ Mid l k j xs ys ∧ Below w.heap.size W4 wr) (fun i _ => xs.length - (intOf i).toNat)
      case atStart => exact ⟨0, ys, by omega, rfl, M1, R1, X1, HYL.out, MD.out, Below.refl _ _⟩
      case round =>
        obtain ⟨j, zs, hj, rfl, hM, hR, hX, hzl, hzd, hbel⟩ := hrel
        have HZL := Lib.hid hzl
        have HZD := Lib.hid hzd
        clear hzl hzd M1 R1 X1 MD HYL HYD S1
        have hE := E1.trans (hbel)
        by_cases hjt : j < xs.length
        · obtain ⟨b', off', rfl, hb', hcell⟩ := (S2.out _ hbel).at_ hjt
          have hjz : j < zs.length := by rw [HZL.out]; omega
          have ry := hR.cell hjz
          have HS := Lib.hid (mid_step HZD.out hjz)
          have fy := hR.free j
          obtain ⟨p0, p1⟩ := hM.rb
          have hji : (j : Int) < (n : Int) := by omega
          generalize xs.getD j 0 = x at *
          generalize zs.getD j 0 = y at *
          go_wp2
          go_region
          have M2 : Ax (wr.setCell ⟨g, j, none⟩ (.int .i64 (max y x))).drew M (max s a) (some ⟨g, 0, none⟩) n n := hM.other (by show M ≠ g; omega) _
          have R2 : Rx (wr.setCell ⟨g, j, none⟩ (.int .i64 (max y x))).drew g (zs.set j (max y x)) := hR.set j _
          have X2 : Ax (wr.setCell ⟨g, j, none⟩ (.int .i64 (max y x))).drew w.heap.size 0 none 0 0 := hX.other (by show w.heap.size ≠ g; omega) _
          have E2 : Below w.heap.size W4 (wr.setCell ⟨g, j, none⟩ (.int .i64 (max y x))).drew := (hbel.setCell (by show w.heap.size ≤ g; omega) _).drew
          generalize (wr.setCell ⟨g, j, none⟩ (.int .i64 (max y x))).drew = W5 at *
          go_wp2
          go_roundw
          case rel => exact ⟨j + 1, zs.set j (max y x), by omega, by go_num, M2, R2, X2, by rw [List.length_set]; exact HZL.out, HS.out, E2⟩
          case measure => simp [intOf]; omega
        · obtain rfl : j = xs.length := by omega
          have HE' := Lib.hid (HE.out zs HZD.out)
          clear HZD HE S2
          go_wp2
          go_roundw
          case rel => exact ⟨k + 1, zs, by omega, by go_num, by rw [HQ.out]; exact hM, hR, hX, HZL.out, HE'.out, hE⟩
          case measure => simp [intOf]; omega
    · obtain rfl : k = l.length := by omega
      rw [List.take_length] at hM HYD
      have e : ys = mg l := mg_ext (by rw [HYL.out, HNN.out]) HYD.out
      have ez : Hid ((mg l).length = n) := by show _ = _; rw [mg_len]; exact HNN.out
      subst e
      obtain ⟨p0, p1⟩ := hM.rb
      obtain ⟨r0, r1⟩ := hX.rb
      have f0 := hX.free 0
      have f1 := hX.free 1
      generalize mg l = zs at *
      generalize sq l = s at *
      clear HYL HYD HNN HLE hs
      go_wp2
      have X9 : Ax ((wr.setCell ⟨w.heap.size, 0, none⟩ (.int .i64 s)).setCell ⟨w.heap.size, 1, none⟩ (.slice (some ⟨g, 0, none⟩) n n)) w.heap.size s (some ⟨g, 0, none⟩) n n := (hX.set0 s).set1 _ _ _
      have R9 : Rx ((wr.setCell ⟨w.heap.size, 0, none⟩ (.int .i64 s)).setCell ⟨w.heap.size, 1, none⟩ (.slice (some ⟨g, 0, none⟩) n n)) g zs := (hR.other (by show g ≠ w.heap.size; omega) _).other (by show g ≠ w.heap.size; omega) _
      have E9 : Below w.heap.size w ((wr.setCell ⟨w.heap.size, 0, none⟩ (.int .i64 s)).setCell ⟨w.heap.size, 1, none⟩ (.slice (some ⟨g, 0, none⟩) n n)) := (hbel.setCell (Nat.le_refl _) _).setCell (Nat.le_refl _) _
      have ez' := ez.out
      refine bodyPost_ret (run_res19 (B := w.heap.size) rfl X9.rb) rfl ⟨some ⟨g, 0, none⟩, n, ?_, R9.sl, E9⟩
      rw [ez']

end Go.Proofs.YtgpciipemgljcaaGreat.At

/-
  The walk of Missing. Conditions: at most 100 nodes, at most 7 deps each; at most 1000 that were done.
-/
namespace Go.Proofs.YtgpciipemgljcaaGreat.Od
open Go.RowKit
set_option linter.unusedVariables false

theorem lt_of_block' {w : World} {b : Nat} {o : Obj} (h : w.heap[b]? = some o) : b < w.heap.size := (Array.getElem?_eq_some_iff.1 h).1

set_option maxRecDepth 100000 in
set_option maxHeartbeats 4000000 in
theorem Missing_any (A : Option Addr) (c : Nat) (l : List No) (hl : l.length ≤ 100) (hc : l.length ≤ c) (Ad : Option Addr) (cd : Nat) (D : List Is) (hD : D.length ≤ 1000) (hf : Wf l) (hW : Wd D) (h7 : F7 l) (h30 : (cs l D).length ≤ 100) (w : World) (hs : Nl w w.heap.size A l) (hd : Dl w w.heap.size l) (hi : Il w w.heap.size Ad D) :
    Calls Tryz.prog 14 #[.slice A l.length c, .slice Ad D.length cd] w (IsPost w (ms (cs l D) D)) := by
  obtain ⟨i0, hi0, hz0, hz1, hz2⟩ := info_parts info28
  have HRe := Lib.hid (read_any A c l hl hc Ad cd D hD hf hW (fun n hn => by have := h7 n hn; omega) w hs hd hi)
  have HCf := Lib.hid (cf_ct h30)
  have HN7 := Lib.hid (h7.cs D)
  have HDr := Lib.hid (hd.sub fun n (hn : n ∈ cs l D) => cs_in hn)
  have HKW := Lib.hid (kw_kn HCf.out D)
  generalize ct l D = cf at *
  have HMS : Hid (∀ ys, (∀ n, n ∈ ys ↔ n ∈ cs l D) → mq (At.mg (ats ys)) (kw cf D) (At.mg (ats ys)).length = ms (cs l D) D) := fun ys hm => by rw [HKW.out]; exact mq_ms hm HN7.out
  generalize ms (cs l D) D = res at *
  generalize cs l D = cl at *
  clear hf hW h7 hs hd hi
  go_enter Tryz.func14, Tryz.ntmps14
  go_wp2_with fail
  refine HRe.out.mono ?_
  rintro e w1 ⟨K, Dm, rfl, hT, B1⟩
  have X5 : Hid (Tx (w1.alloc (.cells #[.map (some K), .map (some Dm)] 51)) w1.heap.size (some K) (some Dm)) := heap_alloc_new _ _
  have b2 : Below w1.heap.size w1 (w1.alloc (.cells #[.map (some K), .map (some Dm)] 51)) := (Below.refl _ _).alloc (Nat.le_refl _) _
  have HT2 := Lib.hid (hT.up b2)
  have HB2 := Lib.hid (B1.trans (b2.mono B1.size))
  have hB5 : w1.heap.size < (w1.alloc (.cells #[.map (some K), .map (some Dm)] 51)).heap.size := X5.out.lt
  obtain ⟨p0, p1⟩ := X5.out.cells
  obtain ⟨ck, hMo⟩ := HT2.out.k
  obtain ⟨oi, hrange, cnt, hRg⟩ := hMo.range Tryz.underlying48 K (w1.alloc (.cells #[.map (some K), .map (some Dm)] 51)) rfl
  have HRWs : w.heap.size ≤ w1.heap.size := B1.size
  clear HRe hT b2 B1 hMo
  go_wp2_with fail
  have hKl := HT2.out.kl
  have hKD := HT2.out.dl
  have hR0 : Hid (Rg dI K ((w1.alloc (.cells #[.map (some K), .map (some Dm)] 51)).alloc oi).heap[K]? ((w1.alloc (.cells #[.map (some K), .map (some Dm)] 51)).alloc oi).heap[(w1.alloc (.cells #[.map (some K), .map (some Dm)] 51)).heap.size]? (fun i => (cf i).map nv) (fun a => ∃ v, (cf a).map nv = some v) cnt) := by
    show Rg _ _ _ _ _ _ _
    rw [heap_alloc_old _ _ hKl, heap_alloc_new]; exact hRg
  have hC0 : Hid (Cm cf (fun a => ∃ v, (cf a).map nv = some v) []) := ⟨by simp [Ds], fun n => by
    constructor
    · intro h; cases h
    · rintro ⟨h1, h2⟩; exact absurd ⟨_, by rw [h1]; rfl⟩ h2⟩
  have b3 : Below (w1.alloc (.cells #[.map (some K), .map (some Dm)] 51)).heap.size (w1.alloc (.cells #[.map (some K), .map (some Dm)] 51)) ((w1.alloc (.cells #[.map (some K), .map (some Dm)] 51)).alloc oi) := (Below.refl _ _).alloc (Nat.le_refl _) _
  have HT3 := Lib.hid (HT2.out.up b3)
  have HX3 := Lib.hid (X5.out.up b3)
  have HB3 := Lib.hid (HB2.out.trans (b3.mono HB2.out.size))
  have hr3 : (w1.alloc (.cells #[.map (some K), .map (some Dm)] 51)).heap.size < ((w1.alloc (.cells #[.map (some K), .map (some Dm)] 51)).alloc oi).heap.size := by simp
  clear hRg HT2 X5 HB2 b3 hrange p0 p1 hKl hKD
  rw [show (w1.alloc (.cells #[.map (some K), .map (some Dm)] 51)).heap.size = w1.heap.size + 1 by simp] at hR0 hr3
  generalize (w1.alloc (.cells #[.map (some K), .map (some Dm)] 51)).alloc oi = W3 at *
  clear hB5
  have HRW : Hid (w.heap.size ≤ w1.heap.size + 1) := by
    have := HRWs
    show _ ≤ _
    omega
  clear HRWs
  generalize w1.heap.size + 1 = r at *
  generalize w1.heap.size = S5 at *
  go_loopg [6] cnt (fun g v W => ∃ (pre : List No) (left : Is → Prop), Hid (Rg dI K W.heap[K]? W.heap[r]? (fun i => (cf i).map nv) left g) ∧ Hid (Cm cf left pre) ∧ Hid (W.ownsRow w.heap.size 28 2 v pre.length (acs pre)) ∧ Hid (Td W K Dm cf D) ∧ Hid (Tx W S5 (some K) (some Dm)) ∧ Hid (Below w.heap.size w W) ∧ r < W.heap.size)
  case atStart => exact ⟨[], _, hR0.out, hC0.out, World.ownsRow_nil _ _ _ _, HT3.out, HX3.out, HB3.out, hr3⟩
  case round =>
    clear hR0 hC0 HT3 HX3 HB3 hr3
    obtain ⟨pre, left, hR, hCm, hown, hT, hX, hB, hrl⟩ := hrel
    rcases hR.out.next goodI 0 with ⟨hno, hrun⟩ | ⟨a, v, w5, cnt3, hok, hla, hfa, hrun, hR1, hcnt, hgr, hsz, hen⟩
    · have HF : Hid (∀ n, n ∈ pre ↔ n ∈ cl) := fun n => by
        rw [hCm.out.m, ← HCf.out.m]
        exact ⟨fun h => h.1, fun h => ⟨h, hno _⟩⟩
      have hDl := HDr.out.to hB.out hB.out.size
      obtain ⟨Aa, ca, hva, hRc⟩ := own_rc hown.out (hDl.sub fun n hn => (HF.out n).1 hn)
      have HRES := Lib.hid (HMS.out pre HF.out)
      have hlg := ats_lg HF.out HN7.out
      have hmg := Lib.hid (ats_mg HF.out HN7.out)
      have hpl : (ats pre).length ≤ 1000 := by
        have := hCm.out.few HCf.out
        simp [ats]; omega
      have hmgl : (At.mg (ats pre)).length ≤ 1000 := by rw [At.mg_len]; omega
      subst hva
      have HRc := Lib.hid hRc
      have hXl := hX.out.lt
      have HC38 : ∀ V, ((V.cell? ⟨S5, 0, none⟩ = some (.map (some K)) ∧ V.cell? ⟨S5, 1, none⟩ = some (.map (some Dm))) ∧ Below wr.heap.size wr V) → Hid (Calls Tryz.prog 38 #[.slice Aa (ats pre).length ca] V (At.AtPost V (At.sq (ats pre)) (At.mg (ats pre)))) := fun V hV =>
        At.merge_any Aa ca (ats pre) V hpl (by omega) ((HRc.out.below hV.2).mono hV.2.size)
      have HC37 : ∀ V Am cm, ((V.cell? ⟨S5, 0, none⟩ = some (.map (some K)) ∧ V.cell? ⟨S5, 1, none⟩ = some (.map (some Dm))) ∧ Below wr.heap.size wr V) → At.Sl V V.heap.size .i64 Am (At.mg (ats pre)) → Hid (Calls Tryz.prog 37 #[.agg #[.map (some K), .map (some Dm)], .agg #[.int .i64 (At.sq (ats pre)), .slice Am (At.mg (ats pre)).length cm]] V (MiPost V K Dm (At.sq (ats pre)) Am cm (At.mg (ats pre)) cf D)) := fun V Am cm hV hS =>
        missing2_any K Dm _ Am cm _ cf D V (hT.out.up hV.2) hS
      have HC36 : ∀ V Ba Bt Am cm, Mi V V.heap.size Ba Bt K Dm (At.sq (ats pre)) Am cm (At.mg (ats pre)) cf D → Hid (Calls Tryz.prog 36 #[.func (.func 65) #[] #[.pointer (some ⟨Ba, 0, none⟩), .pointer (some ⟨Bt, 0, none⟩)]] V (IsPost V res)) := fun V Ba Bt Am cm hM => by
        have := collectI_any Ba Bt K Dm _ Am cm _ cf D hmgl hmg.out V hM
        rw [HRES.out] at this
        exact this
      have S0 : (wr.cell? ⟨S5, 0, none⟩ = some (.map (some K)) ∧ wr.cell? ⟨S5, 1, none⟩ = some (.map (some Dm))) ∧ Below wr.heap.size wr wr := ⟨hX.out.cells, Below.refl _ _⟩
      have KS : Hid (∀ v v', Below v.heap.size v v' → ((v.cell? ⟨S5, 0, none⟩ = some (.map (some K)) ∧ v.cell? ⟨S5, 1, none⟩ = some (.map (some Dm))) ∧ Below wr.heap.size wr v) → ((v'.cell? ⟨S5, 0, none⟩ = some (.map (some K)) ∧ v'.cell? ⟨S5, 1, none⟩ = some (.map (some Dm))) ∧ Below wr.heap.size wr v')) := fun v v' hb hS => by
        have hc : ∀ j, v'.cell? ⟨S5, j, none⟩ = v.cell? ⟨S5, j, none⟩ := fun j => World.cell?_of_block (hb.block S5 (Nat.lt_of_lt_of_le hXl hS.2.size))
        exact ⟨⟨(hc _).trans hS.1.1, (hc _).trans hS.1.2⟩, hS.2.trans (hb.mono hS.2.size)⟩
      have KD := Lib.hid (fun v hS => KS.out v v.drew (Below.refl _ _).drew hS)
      obtain ⟨c0, c1⟩ := hX.out.cells
      generalize hal : (ats pre).length = nal at *
      generalize At.sq (ats pre) = sq at *
      generalize At.mg (ats pre) = mg at *
      clear hno hR hCm hown hRc hDl hX
      go_wp2_with fail
      go_region_held3 (fun v => (v.cell? ⟨S5, 0, none⟩ = some (.map (some K)) ∧ v.cell? ⟨S5, 1, none⟩ = some (.map (some Dm))) ∧ Below wr.heap.size wr v)
        (first | (exact S0) | assumption | (exact KD.out _ S0) | (refine KS.out _ _ hb1 ?_; first | assumption | exact KD.out _ S0) | (refine KS.out _ _ hb2 ?_; first | assumption | (refine KS.out _ _ hb1 ?_; first | assumption | exact KD.out _ S0)) | (refine KS.out _ _ hb3 ?_; first | assumption | (refine KS.out _ _ hb2 ?_; first | assumption | (refine KS.out _ _ hb1 ?_; first | assumption | exact KD.out _ S0))) | (refine KD.out _ ?_; assumption))
        (first | (go_at_call 38; (with_reducible refine (HC38 _ ?_).out.mono ?_); (focus (first | assumption | exact KD.out _ S0)); rintro e wa ⟨Am, cm, rfl, hSl, hb1⟩)
               | (go_at_call 37; (with_reducible refine (HC37 _ _ _ ?_ ?_).out.mono ?_); (focus (first | assumption | (refine KS.out _ _ hb1 ?_; first | assumption | exact KD.out _ S0))); (focus assumption); rintro e wb ⟨Ba, Bt, rfl, hMi, hb2⟩)
               | (go_at_call 36; (with_reducible refine (HC36 _ _ _ _ _ hMi).out.mono ?_); rintro e wc ⟨vc, rfl, hoc, hb3⟩))
      rename_i hHeld
      have HBX := Lib.hid (hB.out.trans (hHeld.2.mono hB.out.size))
      have hww : w.heap.size ≤ wb.heap.size := by
        have h1 : wr.heap.size ≤ wa.heap.size := hb1.size
        have h2 := hB.out.size
        have h3 := hb2.size
        omega
      have HOX := Lib.hid (hoc.mono hww)
      clear KS KD S0 HC36 HC37 HC38 hHeld hoc hb1 hb2 hb3 hMi hSl
      go_wp2
      go_ret
      exact ⟨_, rfl, HOX.out, HBX.out⟩
    · obtain ⟨n, hca⟩ : ∃ n, cf a = some n := by
        cases h : cf a with
        | none => rw [h] at hfa; cases hfa
        | some n => exact ⟨n, rfl⟩
      rw [hca] at hfa
      cases hfa
      obtain rfl := HCf.out.i a n hca
      have HCm := Lib.hid (hCm.out.more HCf.out hla hca)
      have hfew : pre.length < 1000 := by have := hCm.out.few HCf.out; omega
      have hri : ∃ o, wr.heap[r]? = some o ∧ o.isCells = false ∧ ∀ es cl, o ≠ .map es cl := by
        obtain ⟨es, clock, since, seen, c0, hb, _, hi, _⟩ := hR.out
        exact ⟨_, hi, rfl, fun es cl e => by cases e⟩
      obtain ⟨oi2, hoi, hoc, hom⟩ := hri
      have hown5 := own_on (W' := w5) hown.out fun g hg => hgr.block g (hown.out.lt g hg).2 (fun e => own_not hown.out hoi hoc g hg (Option.some.inj e))
      have hX5 : Tx w5 S5 (some K) (some Dm) := (hgr.block S5 hX.out.lt fun e => by
        have e2 : r = S5 := (Option.some.inj e).symm
        rw [e2, show wr.heap[S5]? = _ from hX.out] at hoi
        cases hoi; cases hoc).trans hX.out
      have hT5 : Td w5 K Dm cf D := hT.out.same (hgr.block K hT.out.kl fun e => by
          have e2 : r = K := (Option.some.inj e).symm
          obtain ⟨c, es, cl, hh, _⟩ := hT.out.k
          rw [e2, hh] at hoi
          cases hoi
          exact hom _ _ rfl) (hgr.block Dm hT.out.dl fun e => by
          have e2 : r = Dm := (Option.some.inj e).symm
          obtain ⟨c, es, cl, hh, _⟩ := hT.out.d
          rw [e2, hh] at hoi
          cases hoi
          exact hom _ _ rfl)
      have hrw : w.heap.size ≤ r := HRW.out
      have hB5 : Below w.heap.size w w5 := hB.out.grown hgr hB.out.size (fun r' e => by cases e; exact hrw)
      have bn : Below w5.heap.size w5 (w5.alloc (no n)) := (Below.refl _ _).alloc (Nat.le_refl _) _
      have HO6 := Lib.hid (hown5.alloc (no n))
      have HX6 := Lib.hid (hX5.up bn)
      have HT6 := Lib.hid (hT5.up bn)
      have HB6 := Lib.hid (hB5.trans (bn.mono hB5.size))
      have hrl5 : r < w5.heap.size := by rw [hsz]; exact hrl
      have hKl := hT5.kl
      have HR6 : Hid (Rg dI K (w5.alloc (no n)).heap[K]? (w5.alloc (no n)).heap[r]? (fun i => (cf i).map nv) (fun x => left x ∧ x ≠ n.i) cnt3) := by
        show Rg _ _ _ _ _ _ _
        rw [heap_alloc_old _ _ hKl, heap_alloc_old _ _ hrl5]; exact hR1
      have hrl6 : r < (w5.alloc (no n)).heap.size := by simp; omega
      have NB := nb_new w5 n
      have HN6 := Lib.hid NB
      obtain ⟨x0, x1, x2, x3⟩ := NB.nr
      have hca' := Lib.hid hca
      clear hR hCm hown hX hT hB hown5 hX5 hT5 hB5 bn hR1 hgr hoi hoc hom hca hla hok NB
      obtain ⟨nb, ns, nq, nd, nh, nc⟩ := n
      simp only [nv, no, No.i, dI, iv] at *
      have HSZ := Lib.hid hsz
      clear hsz
      generalize hS6 : w5.alloc (.cells #[.int .i64 nb, .int .i64 ns, .int .i64 nq, .slice nh nd.length nc] 30) = V6 at *
      have H10 := Lib.hid (HO6.out.alloc (.cells #[.int .i64 nq, .slice nh nd.length nc] 28))
      have bm : Below V6.heap.size V6 (V6.alloc (.cells #[.int .i64 nq, .slice nh nd.length nc] 28)) := (Below.refl _ _).alloc (Nat.le_refl _) _
      have HX7 := Lib.hid (HX6.out.up bm)
      have HT7 := Lib.hid (HT6.out.up bm)
      have HB7 := Lib.hid (HB6.out.trans (bm.mono HB6.out.size))
      have hsz6 := HB6.out.size
      clear HO6 HX6 HT6 HB6 bm
      go_wp2_with (at_builtin; refine wpList_append_own_at _ rfl _ _ 62 rfl w.heap.size 28 i0 (.agg #[.int .i64 0, .slice none 0 0]) 2 32 Tryz.underlying62 hi0 hz0 hz1 hz2 rfl (by decide) _ pre.length (acs pre) rfl H10.out ⟨V6.heap.size, 0, none⟩ 1 1 [.int .i64 nq, .slice nh nd.length nc] rfl rfl (cell_two_new _ _ _ _) (by simp [Value.oneCell']) (by unfold maxLen; omega) (by omega) (by simp; omega) ?_; intro v' w9 hown9 hgrow9 _ hat9)
      have HR9 : Hid (Rg ⟨25, fun i => .agg #[.int .i64 i.1, .int .i64 i.2], fun p => fits p.1 ∧ fits p.2⟩ K w9.heap[K]? w9.heap[r]? (fun i => (cf i).map fun n => .agg #[.int .i64 n.b, .int .i64 n.s, .int .i64 n.q, .slice n.h n.d.length n.c]) (fun x => left x ∧ x ≠ (nb, ns)) cnt3) := by
        show Rg _ _ _ _ _ _ _
        have hR := HR6.out
        obtain ⟨es, clock, since, seen, c0, hb, _, hi, _⟩ := id hR
        have hb' := lay_old hb (.cells #[.int .i64 nq, .slice nh nd.length nc] 28)
        have hi' := lay_old hi (.cells #[.int .i64 nq, .slice nh nd.length nc] 28)
        rw [hgrow9.block K (lt_of_block' hb') (fun e => own_not H10.out hb' rfl K e.symm rfl), hgrow9.block r (lt_of_block' hi') (fun e => own_not H10.out hi' rfl r e.symm rfl), hb', hi', ← hb, ← hi]
        exact hR
      have HX9 := Lib.hid (HX7.out.grown H10.out hgrow9 (by decide))
      have HT9 := Lib.hid (HT7.out.grown H10.out hgrow9)
      have HB9 := Lib.hid (HB7.out.grown hgrow9 HB7.out.size (fun r hr => (H10.out.lt r hr).1))
      have hrl9 : r < w9.heap.size := by
        have h1 := hgrow9.size
        simp at h1
        omega
      have H11 : Hid (w9.ownsRow w.heap.size 28 2 v' (pre ++ [(⟨nb, ns, nq, nd, nh, nc⟩ : No)]).length (acs (pre ++ [(⟨nb, ns, nq, nd, nh, nc⟩ : No)]))) := by
        show World.ownsRow _ _ _ _ _ _ _
        rw [List.length_append, acs_append]
        exact hown9
      clear hown9 hgrow9 H10 HX7 HT7 HB7 HR6
      go_roundg cnt3
      case measure => exact hcnt
      case rel => exact ⟨_, _, HR9.out, HCm.out, H11.out, HT9.out, HX9.out, HB9.out, hrl9⟩
end Go.Proofs.YtgpciipemgljcaaGreat.Od
