/-
  The walk of ready: the nodes that wait for nothing that is missing, nor does any that they wait for. Conditions: at most 30 nodes count, each of at most 7 deps.
-/
import Derived.Test.YtgpciipemgljcaaGreatGah
import Derived.Deep.Onto
import Derived.Test.YtgpciipemgljcaaGreatGag
import Derived.RangeFuncBox
import Derived.Maps.OwnIn
import Derived.Lib.SliceRun
namespace Go.Proofs.YtgpciipemgljcaaGreat.Od
open Go.RowKit
open Go.Proofs.YtgpciipemgljcaaGreat.Gp (Br cz zs Es)
set_option linter.unusedVariables false

set_option maxRecDepth 100000 in
set_option maxHeartbeats 4000000 in
theorem ready_any (K Dm : Nat) (cf : Is → Option No) (D : List Is) (cl : List No) (hcf : Cf cf cl) (hri : Ri cl) (hl : cl.length ≤ 30) (hn : ∀ x ∈ cl, nr x = true ∧ x.d.length ≤ 7) (hwf : Wf cl) (w : World) (hT : Td w K Dm cf D) (hd : Dl w w.heap.size cl) :
    Calls Tryz.prog 24 #[tv K Dm] w (NlPost w (rd cl D)) := by
  obtain ⟨j0, hj, hy0, hy1, hy2⟩ := info_parts Gp.info4
  obtain ⟨i0, hi, hz0, hz1, hz2⟩ := info_parts info30
  have X1 : Hid (Tx (w.alloc (.cells #[.map (some K), .map (some Dm)] 51)) w.heap.size (some K) (some Dm)) := heap_alloc_new w _
  have B1 : Hid (Below w.heap.size w (w.alloc (.cells #[.map (some K), .map (some Dm)] 51))) := (Below.refl _ _).alloc (Nat.le_refl _) _
  have HT := Lib.hid hT
  have HD := Lib.hid hd
  have HN := Lib.hid hn
  have HWF := Lib.hid hwf
  have HRD : Hid (rd cl D = rdk cl D cl.length) := rfl
  have hKl := hT.kl
  have hDl := hT.dl
  generalize rd cl D = res at *
  have HKW := Lib.hid (kw_kn hcf D)
  have HSO : ∀ W, Td W K Dm cf D → ∀ B, W.heap[B]? = some (.cells #[.map (some K)] 48 (0, 0)) → Hid (Calls Tryz.prog 45 #[.func (.func 74) #[] #[.pointer (some ⟨B, 0, none⟩)], .func (.func 47) #[] #[]] W (NlPost W cl)) := fun W h B hB => by
    obtain ⟨c, hMo⟩ := h.k
    exact sortedN_any B K c cf cl hcf hri W hB hMo
  have hx1 : w.heap.size < (w.alloc (.cells #[.map (some K), .map (some Dm)] 51)).heap.size := X1.out.lt
  clear hT hd hn hwf hcf
  obtain ⟨p0, p1⟩ := X1.out.cells
  go_enter Tryz.func24, Tryz.ntmps24
  go_wp2_with fail
  generalize w.alloc (.cells #[.map (some K), .map (some Dm)] 51) = W1 at *
  refine (values_any K W1).mono ?_
  rintro e w2 ⟨rfl, rfl⟩
  have B2 : Below W1.heap.size W1 (W1.alloc (.cells #[.map (some K)] 48)) := (Below.refl _ _).alloc (Nat.le_refl _) _
  have HS2 := HSO (W1.alloc (.cells #[.map (some K)] 48)) ((HT.out.up B1.out).up B2) W1.heap.size (heap_alloc_new _ _)
  have X2 := Lib.hid (X1.out.up B2)
  have HB2 := Lib.hid (B1.out.trans (B2.mono B1.out.size))
  clear HSO B2 X1 B1 p0 p1
  go_wp2_with fail
  generalize W1.alloc (.cells #[.map (some K)] 48) = W2 at *
  refine HS2.out.mono ?_
  rintro e w3 ⟨v, rfl, ho, hb3⟩
  obtain ⟨A, c, rfl, hNl, _⟩ := own_nl ho
  have HNl := Lib.hid hNl
  have X3 := Lib.hid (X2.out.up hb3)
  have HB3 := Lib.hid (HB2.out.trans (hb3.mono HB2.out.size))
  have HE3 := Lib.hid (edges_any A c cl (by omega) HWF.out w3 hNl (HD.out.to HB3.out HB3.out.size))
  clear HS2 ho hNl HB2 X2 hb3
  go_wp2_with fail
  refine HE3.out.mono ?_
  rintro e w4 ⟨Ae, ce, rfl, hEs, hb4⟩
  have HEs := Lib.hid hEs
  have X4 := Lib.hid (X3.out.up hb4)
  have HNl4 := Lib.hid (HNl.out.to hb4 hb4.size)
  have HB4 := Lib.hid (HB3.out.trans (hb4.mono HB3.out.size))
  clear HE3 hEs hb4 X3 HNl HB3
  go_wp2_with (at_make; refine wpList_make_full _ rfl _ _ 41 rfl w4.heap.size 4 j0 (.bool false) 1 (by kernel_rfl) hj hy0 hy1 _ _ _ _ cl.length rfl rfl rfl rfl (by rw [hy2]; omega) (by unfold maxLen; omega) (Nat.le_refl _) ?_; intro w5 hown5 hgrow5)
  have HR5 : Br w5 w4.heap.size (fun _ => false) cl.length := Gp.tb_made hown5 rfl
  have HB5 : Below w4.heap.size w4 w5 := (Below.refl _ _).grown hgrow5 (Nat.le_refl _) (by simp)
  have HR6 : Hid (Br (w5.alloc (.cells #[.slice (some ⟨w4.heap.size, 0, none⟩) cl.length cl.length] 41)) w4.heap.size (lvk cl D 0) cl.length) := Gp.Br.congr (f := fun _ => false) (Gp.Tb.old HR5 _) fun j hj => (lvk_zero cl D j).symm
  have HB6 : Hid (Below w4.heap.size w4 (w5.alloc (.cells #[.slice (some ⟨w4.heap.size, 0, none⟩) cl.length cl.length] 41))) := HB5.alloc HB5.size _
  have HS6 : Hid (Sx (w5.alloc (.cells #[.slice (some ⟨w4.heap.size, 0, none⟩) cl.length cl.length] 41)) w5.heap.size w4.heap.size cl.length) := heap_alloc_new _ _
  clear hown5 hgrow5 HR5 HB5
  go_wp2
  generalize w5.alloc (.cells #[.slice (some ⟨w4.heap.size, 0, none⟩) cl.length cl.length] 41) = W6 at *
  generalize w5.heap.size = S5 at *
  go_loopg [23] cl.length (fun q t W => ∃ k : Nat, k + q = cl.length ∧ t = .int .i64 (k : Int) ∧ Hid (Br W w4.heap.size (lvk cl D k) cl.length) ∧ Hid (Sx W S5 w4.heap.size cl.length) ∧ Hid (Below w4.heap.size w4 W))
  case atStart => exact ⟨0, by omega, rfl, HR6.out, HS6.out, HB6.out⟩
  case round =>
    clear HR6 HS6 HB6
    obtain ⟨k, hk, rfl, hR, hS, hB⟩ := hrel
    by_cases hlt : k < cl.length
    · have hki : (k : Int) < (cl.length : Int) := by omega
      have hk0 : (0 : Int) ≤ (k : Int) := by omega
      have HX := Lib.hid (List.getElem?_eq_getElem hlt)
      have hmem := List.getElem_mem hlt
      obtain ⟨b, off, rfl, hb, p0, p1, p2, p3⟩ := (HNl4.out.below hB.out (Nat.le_refl _)).at_ HX.out
      have NX := nb_new wr cl[k]
      have hnx := HN.out _ hmem
      have HLK := Lib.hid (mq_lk (D := D) hmem hnx.1 hnx.2)
      have hdx : ∀ y ∈ (cl[k]).d, y ≤ 1000 := fun y hy => by have := (nr_iff.1 hnx.1).2.2.2.2 y hy; omega
      have HLV := Lib.hid (lv_at (D := D) HX.out)
      have HDX := HD.out _ hmem
      have HC : ∀ V, Zr w4 w.heap.size K Dm S5 wr.heap.size w4.heap.size cl.length k (lvk cl D k) cl[k] V → Hid (Calls Tryz.prog 49 #[tv K Dm, nv cl[k]] V (BoolPost V (lv cl D k))) := fun V hV => by
        have hBV := HB4.out.trans (hV.b.mono HB4.out.size)
        have := lacks_any K Dm cl[k] cf D (by omega) hdx V (HT.out.up hBV) (HDX.to hBV hBV.size)
        rw [HKW.out, HLK.out, ← HLV.out] at this
        exact this
      have Z0 : Zr w4 w.heap.size K Dm S5 wr.heap.size w4.heap.size cl.length k (lvk cl D k) cl[k] (wr.alloc (no cl[k])) :=
        ⟨(X4.out.up hB.out).old _, (heap_alloc_old _ _ hS.out.lt).trans hS.out, NX, ⟨_, Gp.Tb.old hR.out _, fun j _ _ => rfl⟩, hB.out.alloc hB.out.size _⟩
      have HST := Lib.hid (fun j => lvk_step cl D k j)
      generalize cl[k] = x at *
      generalize lv cl D k = r at *
      obtain ⟨xb, xs, xq, xd, xh, xc⟩ := x
      simp only [no, nv, tv] at *
      clear HLK HLV HDX hdx hR hS hnx NX
      go_wp2_with fail
      generalize hB7 : wr.heap.size = B7 at *
      generalize wr.alloc (.cells #[.int .i64 xb, .int .i64 xs, .int .i64 xq, .slice xh xd.length xc] 30) = V0 at *
      have KC : Hid (∀ v, Zr w4 w.heap.size K Dm S5 B7 w4.heap.size cl.length k (lvk cl D k) ⟨xb, xs, xq, xd, xh, xc⟩ v → (v.cell? ⟨S5, 0, none⟩ = some (.slice (some ⟨w4.heap.size, 0, none⟩) cl.length cl.length) ∧ (v.cell? ⟨w.heap.size, 0, none⟩ = some (.map (some K)) ∧ v.cell? ⟨w.heap.size, 1, none⟩ = some (.map (some Dm))) ∧ (v.cell? ⟨B7, 0, none⟩ = some (.int .i64 xb) ∧ v.cell? ⟨B7, 1, none⟩ = some (.int .i64 xs) ∧ v.cell? ⟨B7, 2, none⟩ = some (.int .i64 xq) ∧ v.cell? ⟨B7, 3, none⟩ = some (.slice xh xd.length xc)) ∧ v.cell? ⟨w4.heap.size, k, none⟩ = some (.bool (rb4 v ⟨w4.heap.size, k, none⟩)) ∧ v.frozen? ⟨w4.heap.size, k, none⟩ = false ∧ Zr w4 w.heap.size K Dm S5 B7 w4.heap.size cl.length k (lvk cl D k) ⟨xb, xs, xq, xd, xh, xc⟩ v)) := fun v h => ⟨h.s.cell, h.t.cells, h.n.nr, h.cell hlt, h.free, h⟩
      have S0 := KC.out V0 Z0
      have KD : Hid (∀ v, Zr w4 w.heap.size K Dm S5 B7 w4.heap.size cl.length k (lvk cl D k) ⟨xb, xs, xq, xd, xh, xc⟩ v → Zr w4 w.heap.size K Dm S5 B7 w4.heap.size cl.length k (lvk cl D k) ⟨xb, xs, xq, xd, xh, xc⟩ v.drew) := fun v h => h.up (Below.refl _ _).drew
      have KU : Hid (∀ v v', Below v.heap.size v v' → Zr w4 w.heap.size K Dm S5 B7 w4.heap.size cl.length k (lvk cl D k) ⟨xb, xs, xq, xd, xh, xc⟩ v → Zr w4 w.heap.size K Dm S5 B7 w4.heap.size cl.length k (lvk cl D k) ⟨xb, xs, xq, xd, xh, xc⟩ v') := fun v v' hb h => h.up hb
      have KW : Hid (∀ v b, Zr w4 w.heap.size K Dm S5 B7 w4.heap.size cl.length k (lvk cl D k) ⟨xb, xs, xq, xd, xh, xc⟩ v → Zr w4 w.heap.size K Dm S5 B7 w4.heap.size cl.length k (lvk cl D k) ⟨xb, xs, xq, xd, xh, xc⟩ (v.setCell ⟨w4.heap.size, k, none⟩ (.bool b))) := fun v b h => h.set (Nat.le_refl _) b
      have HZ := Lib.hid Z0
      clear Z0
      go_region_held3 (fun v => v.cell? ⟨S5, 0, none⟩ = some (.slice (some ⟨w4.heap.size, 0, none⟩) cl.length cl.length) ∧ (v.cell? ⟨w.heap.size, 0, none⟩ = some (.map (some K)) ∧ v.cell? ⟨w.heap.size, 1, none⟩ = some (.map (some Dm))) ∧ (v.cell? ⟨B7, 0, none⟩ = some (.int .i64 xb) ∧ v.cell? ⟨B7, 1, none⟩ = some (.int .i64 xs) ∧ v.cell? ⟨B7, 2, none⟩ = some (.int .i64 xq) ∧ v.cell? ⟨B7, 3, none⟩ = some (.slice xh xd.length xc)) ∧ v.cell? ⟨w4.heap.size, k, none⟩ = some (.bool (rb4 v ⟨w4.heap.size, k, none⟩)) ∧ v.frozen? ⟨w4.heap.size, k, none⟩ = false ∧ Zr w4 w.heap.size K Dm S5 B7 w4.heap.size cl.length k (lvk cl D k) ⟨xb, xs, xq, xd, xh, xc⟩ v)
        (first | (exact S0) | assumption | (exact KC.out _ (KD.out _ HZ.out)) | (refine KC.out _ (KU.out _ _ hb1 ?_); first | assumption | exact KD.out _ HZ.out) | (refine KC.out _ (KW.out _ _ ?_); first | assumption | (refine KU.out _ _ hb1 ?_; first | assumption | exact KD.out _ HZ.out)))
        (first | (go_at_call 49; (with_reducible refine (HC _ ?_).out.mono ?_); (focus (first | assumption | exact KD.out _ HZ.out)); rintro e wa ⟨rfl, hb1⟩))
      rename_i hHeld
      have ZA := KU.out _ _ hb1 (KD.out _ HZ.out)
      have HRw : Hid (Br (wa.setCell ⟨w4.heap.size, k, none⟩ (.bool r)) w4.heap.size (lvk cl D (k + 1)) cl.length) := (ZA.row r).congr fun j hj => (HST.out j).symm
      have ZB := ZA.set (Nat.le_refl _) r
      have HSw := Lib.hid ZB.s
      have HBw := Lib.hid ZB.b
      clear KC S0 KD KU KW HZ HC ZA ZB hB hHeld hb1
      go_wp2
      go_roundg (cl.length - (k + 1))
      case measure => omega
      case rel => exact ⟨k + 1, by omega, by go_num, HRw.out, HSw.out, HBw.out⟩
    · obtain rfl : k = cl.length := by omega
      obtain ⟨V, hV⟩ : ∃ V, V = wr := ⟨_, rfl⟩
      subst hV
      have HEe := ee_len hl
      have HBV := Lib.hid (HB4.out.trans (hB.out.mono HB4.out.size))
      have hszV : w.heap.size ≤ V.heap.size := HBV.out.size
      go_wp2
      go_loopg [8, 37] cl.length (fun q v t W => ∃ k : Nat, k + q = cl.length ∧ t = .int .i64 (k : Int) ∧ Hid (W.ownsRow V.heap.size 30 4 v (rdk cl D k).length (ncs (rdk cl D k))) ∧ Hid (Below V.heap.size V W))
      case atStart => exact ⟨0, by omega, rfl, World.ownsRow_nil _ _ _ _, Below.refl _ _⟩
      case round =>
        obtain ⟨k, hk, rfl, hown, hB2⟩ := hrel
        by_cases hlt : k < cl.length
        · have hki : (k : Int) < (cl.length : Int) := by omega
          have hk0 : (0 : Int) ≤ (k : Int) := by omega
          have HX := Lib.hid (List.getElem?_eq_getElem hlt)
          have BV := hB.out.trans (hB2.out.mono hB.out.size)
          obtain ⟨b, off, rfl, hb, p0, p1, p2, p3⟩ := (HNl4.out.below BV (Nat.le_refl _)).at_ HX.out
          have HG := Lib.hid (gd_any (by omega) D hlt)
          have HYes : Hid (gd cl D k = true → rdk cl D (k + 1) = rdk cl D k ++ [cl[k]]) := rdk_yes hlt
          have HNo : Hid (gd cl D k = false → rdk cl D (k + 1) = rdk cl D k) := rdk_no
          have HZi := Lib.hid (zs_in (c := cl) (by omega) hlt)
          have HZl : Hid ((zs (cz (cl.length : Int) (ee cl) (k : Int))).length ≤ 1000) := by
            show _ ≤ _
            rw [Gp.zs_len]
            have := Gp.cz_len (cl.length : Int) (ee cl) (k : Int)
            omega
          have NX := Lib.hid (nb_new wr cl[k])
          have HO1 := Lib.hid (hown.out.alloc (no cl[k]))
          have HB3 := Lib.hid (hB2.out.alloc hB2.out.size (no cl[k]))
          have HCl := Lib.hid (Gp.Closure_any (cl.length : Int) Ae ce (ee cl) (k : Int) HEe (wr.alloc (no cl[k])) (HEs.out.to (hB.out.trans (HB3.out.mono hB.out.size)) (Nat.le_trans hB.out.size HB3.out.size)))
          have hrl := rdk_len cl D k
          generalize cl[k] = x at *
          generalize zs (cz (cl.length : Int) (ee cl) (k : Int)) = xs at *
          generalize gd cl D k = gk at *
          obtain ⟨xb, xs', xq, xd, xh, xc⟩ := x
          simp only [no] at *
          clear hown hB2 BV
          go_wp2_with fail
          generalize hB7 : wr.heap.size = B7 at *
          generalize wr.alloc (.cells #[.int .i64 xb, .int .i64 xs', .int .i64 xq, .slice xh xd.length xc] 30) = V0 at *
          refine HCl.out.mono ?_
          rintro e w7 ⟨A7, c7, rfl, hS7, hb7⟩
          have HO2 := Lib.hid (ownk HO1.out hb7)
          have HB7 := Lib.hid (HB3.out.trans (hb7.mono HB3.out.size))
          have N7 := Lib.hid (NX.out.on hb7 NX.out.lt)
          have HCf := Lib.hid (lkcf_any A7 c7 xs cl.length S5 w4.heap.size (lvk cl D cl.length) HZi.out HZl.out w7 hS7 ((HB7.out.block S5 hS.out.lt).trans hS.out) (Gp.Tb.on hR.out HB7.out (Gp.Tb.lt hR.out)))
          clear HO1 HB3 NX hS7 hb7 HCl
          go_wp2_with fail
          refine HCf.out.mono ?_
          rintro e w8 ⟨rfl, rfl⟩
          obtain ⟨x0, x1, x2, x3⟩ := N7.out.nr
          generalize (xs.any fun x => lvk cl D cl.length x.toNat) = rr at *
          have hsz8 := HB7.out.size
          rcases rr with _ | _
          · have HE := Lib.hid (HYes.out (by rw [HG.out]; rfl))
            have H10 := Lib.hid (HO2.out.alloc (no ⟨xb, xs', xq, xd, xh, xc⟩))
            have HB8 := Lib.hid (HB7.out.alloc HB7.out.size (no ⟨xb, xs', xq, xd, xh, xc⟩))
            simp only [no] at H10 HB8
            clear HO2 HB7 N7 HCf HYes HNo HG
            go_wp2_with (at_builtin; refine wpList_append_own_at _ rfl _ _ 22 rfl V.heap.size 30 i0 (.agg #[.int .i64 0, .int .i64 0, .int .i64 0, .slice none 0 0]) 4 48 Tryz.underlying22 hi hz0 hz1 hz2 rfl (by decide) _ (rdk cl D k).length (ncs (rdk cl D k)) rfl H10.out ⟨w8.heap.size, 0, none⟩ 1 1 [.int .i64 xb, .int .i64 xs', .int .i64 xq, .slice xh xd.length xc] rfl rfl (cell_four_new _ _ _ _ _ _) (by simp [Value.oneCell']) (by unfold maxLen; omega) (by omega) (by simp; omega) ?_; intro v' w9 hown9 hgrow9 _ hat9)
            have HB9 := Lib.hid (HB8.out.grown hgrow9 HB8.out.size (fun r hr => (H10.out.lt r hr).1))
            have H11 : Hid (w9.ownsRow V.heap.size 30 4 v' (rdk cl D (k + 1)).length (ncs (rdk cl D (k + 1)))) := by
              show World.ownsRow _ _ _ _ _ _ _
              rw [HE.out, List.length_append, ncs_append]
              exact hown9
            clear hown9 hgrow9 H10 HB8
            go_wp2
            go_roundg (cl.length - (k + 1))
            case measure => omega
            case rel => exact ⟨k + 1, by omega, by go_num, H11.out, HB9.out⟩
          · have HE := Lib.hid (HNo.out (by rw [HG.out]; rfl))
            clear HYes HNo HG HCf
            go_wp2
            go_roundg (cl.length - (k + 1))
            case measure => omega
            case rel => exact ⟨k + 1, by omega, by go_num, by rw [HE.out]; exact HO2.out, HB7.out⟩
        · obtain rfl : k = cl.length := by omega
          have HX : Hid (wr.ownsRow w.heap.size 30 4 u8 res.length (ncs res)) := by
            show World.ownsRow _ _ _ _ _ _ _
            rw [HRD.out]
            exact hown.out.mono hszV
          have HBX := Lib.hid (HBV.out.trans (hB2.out.mono HBV.out.size))
          go_wp2
          go_ret
          exact ⟨_, rfl, HX.out, HBX.out⟩
end Go.Proofs.YtgpciipemgljcaaGreat.Od

/-
  What stands between two rounds of the second pass of graph.components: words, and that they abide what the loop's own book-keeping turns. No program's function is walked here. No conditions.
-/
namespace Go.Proofs.YtgpciipemgljcaaGreat.Gp
open Go.RowKit Go.Shelf
set_option linter.unusedVariables false

/-- A slice's own row is no block of another type. -/
theorem own_tag {w : World} {base : Nat} {e t : TypeId} {v : Value} {n r : Nat} {xs : List Value} {cs : Array Value} {fr : Nat × Nat} (h : w.ownsRow base e 1 v n xs) (hr : w.heap[r]? = some (.cells cs t fr)) (hne : t ≠ e) : some r ≠ v.ownBlock := by
  rcases h.2 with ⟨rfl, _⟩ | ⟨g, cap, cur, rfl, _, hh, _⟩
  · simp [Value.ownBlock]
  · intro e1
    have : r = g := by simpa [Value.ownBlock] using e1
    subst this
    rw [hh] at hr
    simp only [Option.some.injEq, Obj.cells.injEq] at hr
    exact hne hr.2.1.symm
theorem iv_one (l : List Nat) : ∀ u ∈ iv l, u.oneCell' = true := fun u hu => by
  unfold iv at hu
  obtain ⟨x, _, rfl⟩ := List.mem_map.1 hu
  rfl
theorem Fst.len {E : Nat → Nat → Prop} {m k : Nat} {L : List Nat} {seen : Nat → Bool} (h : Fst E m k L seen) : L.length ≤ m := by
  have := h.nd.length_le_of_subset (l₂ := List.range m) (fun x hx => List.mem_range.2 (h.inn x hx))
  simpa using this
theorem Lft.len {E : Nat → Nat → Prop} {m f : Nat} {l : List Nat} {seen : Nat → Bool} (h : Lft E m seen f l) : l.length ≤ m := by
  have := h.nd.length_le_of_subset (l₂ := List.range m) (fun x hx => List.mem_range.2 (h.inn x hx).2.1)
  simpa using this
theorem eg_turn (n : Nat) (G : Nat → Nat → Bool) : Eg n (fun i j => G j i) = fun x y => Eg n G y x := by
  funext x y
  refine propext ⟨fun h => ⟨h.2.1, h.1, h.2.2⟩, fun h => ⟨h.2.1, h.1, h.2.2⟩⟩
theorem own_mono {w : World} {base base' : Nat} {e : TypeId} {v : Value} {n : Nat} {xs : List Value} (h : w.ownsRow base e 1 v n xs) (hb : base' ≤ base) : w.ownsRow base' e 1 v n xs := by
  refine ⟨h.1, ?_⟩
  rcases h.2 with h0 | ⟨g, cap, cur, hv, hg, hr⟩
  · exact .inl h0
  · exact .inr ⟨g, cap, cur, hv, by omega, hr⟩
theorem ir_own {w : World} {base g n c : Nat} {l : List Nat} (h : w.ownsRow base 3 1 (.slice (some ⟨g, 0, none⟩) n c) n (iv l)) (hn : n = l.length) : Ir w (.slice (some ⟨g, 0, none⟩) n c) l := by
  rcases h.2 with ⟨h0, _⟩ | ⟨g', cap, cur, hv, _, hh, _, _, _, ht⟩
  · cases h0
  · simp only [Value.slice.injEq, Option.some.injEq, Addr.mk.injEq] at hv
    obtain ⟨⟨rfl, _⟩, _, rfl⟩ := hv
    refine ⟨g, c, cur, by rw [hn], hh, fun j x hx => ?_⟩
    have hj : j < n := by rw [hn]; exact (List.getElem?_eq_some_iff.1 hx).1
    have h1 : (cur.toList.take (n * 1))[j]? = (iv l)[j]? := by rw [ht]
    rw [List.getElem?_take_of_lt (by omega), Array.getElem?_toList] at h1
    rw [h1]
    unfold iv
    rw [List.getElem?_map, hx]
    rfl
/-- All blocks of cells are as they were. -/
def Kc (w w' : World) : Prop := ∀ (b : Nat) (o : Obj), w.heap[b]? = some o → o.isCells = true → w'.heap[b]? = some o
theorem Kc.of_own {w w' : World} {row : Option Nat} (hg : w.grownBy w' row) (hr : ∀ r, row = some r → ∃ o : Obj, w.heap[r]? = some o ∧ o.isCells = false) : Kc w w' := fun b o hb hc => (hg.block b (lt_of_block hb) (fun e => by
  obtain ⟨o', ho, hc'⟩ := hr b e.symm
  rw [hb] at ho
  cases ho
  rw [hc] at hc'; cases hc')).trans hb
theorem Kc.tb {w w' : World} {b : Nat} {t : TypeId} {f : Nat → Value} {n : Nat} (h : Kc w w') (k : Tb w b t f n) : Tb w' b t f n := h b _ k rfl
theorem Kc.boxed {w w' : World} {b : Nat} {t : TypeId} {v : Value} (h : Kc w w') (k : Boxed w b t v) : Boxed w' b t v := h b _ k rfl
theorem Kc.gr {w w' : World} {b n : Nat} {R : Nat → Nat} {G : Nat → Nat → Bool} (h : Kc w w') (k : Gr w b R n G) : Gr w' b R n G := ⟨h.tb k.hdr, fun i hi => h.tb (k.row i hi), k.one⟩
theorem Kc.ut {w w' : World} {t : TypeId} (h : Kc w w') : Ut t w w' := fun b cs hb => h b _ hb rfl
theorem Kc.own {w w' : World} {base : Nat} {e : TypeId} {v : Value} {n : Nat} {xs : List Value} (h : Kc w w') (k : w.ownsRow base e 1 v n xs) : w'.ownsRow base e 1 v n xs := by
  refine ⟨k.1, ?_⟩
  rcases k.2 with h0 | ⟨g, cap, cur, hv, hg, hh, hr⟩
  · exact .inl h0
  · exact .inr ⟨g, cap, cur, hv, hg, h g _ hh rfl, hr⟩
theorem Kc.pr {D : Nat} {w w' : World} {base : Nat} {v : Value} {ps : List (List Nat)} (h : Kc w w') (k : Po D w base v ps) : Po D w' base v ps := by
  obtain ⟨hs, ho, hi⟩ := k
  exact ⟨hs, h.own ho, fun i p hp => by obtain ⟨x, h1, h2⟩ := hi i p hp; exact ⟨x, h1, h2.ut h.ut⟩⟩

/-- Between two rounds: the marks, the boxes, the parts so far. -/
structure Ck (w : World) (H n s sb tb pb bT : Nat) (RT : Nat → Nat) (G : Nat → Nat → Bool) (LL : List (Th n)) (pre : List (Ty n)) (W : World) (ps : List (List Nat)) (seen : Nat → Bool) (v : Value) : Prop where
  row : Br W s seen n
  shut : ∀ x y, seen x = true → Eg n (fun i j => G j i) x y → seen y = true
  bs : Boxed W sb 41 (.slice (some ⟨s, 0, none⟩) n n)
  bt : Boxed W tb 83 (.slice (some ⟨bT, 0, none⟩) n n)
  bp : Boxed W pb 54 v
  prt : Pr W H v ps
  grf : Gr W bT RT n (fun i j => G j i)
  bel : Below w.heap.size w W
  size : H ≤ W.heap.size
  snd : pre <+: seq LL → Snd (Eg n G) n (pre.reverse.map (fun x => x.1.1)) ps seen
  few : ps.length ≤ pre.length
  ne : ∀ p ∈ ps, p ≠ []
  nl : ps = [] → v = .slice none 0 0
theorem ck_own {w : World} {H n s sb tb pb bT : Nat} {RT : Nat → Nat} {G : Nat → Nat → Bool} {LL : List (Th n)} (hH : w.heap.size ≤ H) : OwnFrom H (fun pre W => ∃ ps seen v, Ck w H n s sb tb pb bT RT G LL pre W ps seen v) := by
  rintro pre W W' row ⟨ps, seen, v, h⟩ hg hr
  have hK : Kc W W' := Kc.of_own hg fun r e => (hr r e).2
  exact ⟨ps, seen, v, ⟨hK.tb h.row, h.shut, hK.boxed h.bs, hK.boxed h.bt, hK.boxed h.bp, hK.pr h.prt, hK.gr h.grf, h.bel.grown hg h.bel.size (fun r e => Nat.le_trans hH (hr r e).1), Nat.le_trans h.size hg.size, h.snd, h.few, h.ne, h.nl⟩⟩
theorem ck_pass {w : World} {H n s sb tb pb bT : Nat} {RT : Nat → Nat} {G : Nat → Nat → Bool} {LL : List (Th n)} {pre : List (Ty n)} {W : World} {ps : List (List Nat)} {seen : Nat → Bool} {v : Value} (h : Ck w H n s sb tb pb bT RT G LL pre W ps seen v) (x : Ty n) (hx : seen x.1.1 = true) : Ck w H n s sb tb pb bT RT G LL (pre ++ [x]) W ps seen v :=
  ⟨h.row, h.shut, h.bs, h.bt, h.bp, h.prt, h.grf, h.bel, h.size, fun hp => by
    have := (h.snd ((List.prefix_append pre [x]).trans hp)).pass hx
    simpa using this, by have := h.few; simp; omega, h.ne, h.nl⟩

/-- The part, rising, that a walk against the edges left. -/
noncomputable def srt (n : Nat) (q : List Nat) : List Nat := (List.range n).filter fun x => decide (x ∈ q)
theorem srt_rises (n : Nat) (q : List Nat) : (srt n q).Pairwise (· < ·) := (range_lt n).filter _
theorem mem_srt {n : Nat} {q : List Nat} (hq : ∀ x, x ∈ q → x < n) (x : Nat) : x ∈ q ↔ x ∈ srt n q := by
  simp only [srt, List.mem_filter, List.mem_range, decide_eq_true_eq]
  exact ⟨fun h => ⟨hq x h, h⟩, fun h => h.2⟩
theorem val_seq {n : Nat} (LL : List (Th n)) : (seq LL).map (fun x => x.1.1) = (LL.map (·.1)).reverse := by
  unfold seq
  rw [List.map_reverse]
  congr 1
  apply List.ext_getElem
  · simp
  · intro i h1 h2
    simp

/-- The marks, and the parts, behind a walk. -/
theorem snd_step {n : Nat} {G : Nat → Nat → Bool} {LL : List (Th n)} {L : List Nat} {sf : Nat → Bool} (hLL : LL.map (·.1) = L) (hf : Fst (Eg n G) n n L sf) {pre : List (Ty n)} {x : Ty n} {ps : List (List Nat)} {seen : Nat → Bool}
    (h : Snd (Eg n G) n (pre.reverse.map (fun x => x.1.1)) ps seen) (hp : pre ++ [x] <+: seq LL) (hx : seen x.1.1 = false) {q : List Nat} (hl : Lft (Eg n (fun i j => G j i)) n seen x.1.1 q) :
    Snd (Eg n G) n ((pre ++ [x]).reverse.map (fun x => x.1.1)) (ps ++ [srt n q]) (fun y => seen y || decide (y ∈ q)) := by
  obtain ⟨rest, hr⟩ := hp
  have e1 : L = (rest.map (fun x => x.1.1)).reverse ++ x.1.1 :: pre.reverse.map (fun x => x.1.1) := by
    have := val_seq LL
    rw [hLL, ← hr] at this
    have h2 := congrArg List.reverse this
    rw [List.reverse_reverse] at h2
    rw [← h2]
    simp
  rw [e1] at hf
  rw [eg_turn] at hl
  have hall : ∀ y, y < n → y ∈ (rest.map (fun x => x.1.1)).reverse ++ x.1.1 :: pre.reverse.map (fun x => x.1.1) := fun y hy => hf.upto y hy
  have hfi := h.finds (eg_in n G) hf hall hx hl
  have hs : srt n q = cmp (Eg n G) n x.1.1 := rises_same (srt_rises n q) (cmp_rises _) fun y => by
    rw [← mem_srt (fun z hz => (hl.inn z hz).2.1), hfi.1]
  have := h.more (eg_in n G) hf hall hx hl
  rw [hs]
  simpa using this

end Go.Proofs.YtgpciipemgljcaaGreat.Gp

/-
  The walk of graph.components: the components, by their first things. Conditions: at most 1000 things.
-/
namespace Go.Proofs.YtgpciipemgljcaaGreat.Gp
open Go.RowKit Go.Shelf
set_option linter.unusedVariables false
attribute [local go_sem] Oper.semAt_some

theorem clr_row {s n : Nat} : ∀ (k o : Nat) {w : World} {f : Nat → Bool}, Br w s f n → Br (w.setCells s o (List.replicate k (.bool false))) s (fun j => if o ≤ j ∧ j < o + k then false else f j) n := by
  intro k
  induction k with
  | zero =>
    intro o w f h
    exact Br.congr (f := f) h fun j _ => by rw [if_neg (by omega)]
  | succ k ih =>
    intro o w f h
    rw [List.replicate_succ, World.setCells]
    exact (ih (o + 1) (h.set o false)).congr fun j _ => by
      by_cases h1 : o + 1 ≤ j ∧ j < o + 1 + k
      · rw [if_pos h1, if_pos (by omega)]
      · rw [if_neg h1]
        by_cases h2 : j = o
        · rw [if_pos h2, if_pos (by omega)]
        · rw [if_neg h2, if_neg (by omega)]
theorem clr_off {s : Nat} {O : Nat → Prop} (hs : O s) {a : World} : ∀ (k o : Nat) {w : World}, Off O a w → Off O a (w.setCells s o (List.replicate k (.bool false))) := by
  intro k
  induction k with
  | zero => intro o w h; exact h
  | succ k ih =>
    intro o w h
    rw [List.replicate_succ, World.setCells]
    exact ih (o + 1) (h.set (p := ⟨s, o, none⟩) (.inl hs) _)
theorem clr_run {s n : Nat} {f : Nat → Bool} {W : World} (h : Br W s f n) (ty : TypeId) : (Builtin.clear_ #[41] ty #[.slice (some ⟨s, 0, none⟩) n n]).run Tryz.prog W = .ok (.tuple #[]) (W.setCells s 0 (List.replicate n (.bool false))) := by
  have hu : Tryz.prog.underlying 41 = some (.slice 4) := by kernel_rfl
  have hz : ∀ w, (zeroValue 4).run Tryz.prog w = .ok (.bool false) w := fun w => by
    have := Tryz.zeroValue4
    exact this w
  rcases Nat.eq_zero_or_pos n with rfl | hn
  · simp [Builtin.clear_, run_underlying hu, World.setCells]
  · exact Lib.run_clear_slice W 41 4 ty (.bool false) hu hz rfl rfl s 0 n n hn (fun j hj => by rw [Nat.zero_add, h.cell hj]; rfl) (fun j _ => by rw [Nat.zero_add]; exact Tb.free h j)

set_option maxRecDepth 100000 in
set_option maxHeartbeats 4000000 in
theorem components_any (b : Nat) (R : Nat → Nat) (n : Nat) (G : Nat → Nat → Bool) (hn : n ≤ 1000) (w : World) (hG : Gr w b R n G) :
    Calls Tryz.prog 54 #[.slice (some ⟨b, 0, none⟩) n n] w (fun e w' => ∃ qs v, e = .returned v ∧ Rem (Eg n G) n (fun _ => False) qs ∧ Pr w' w.heap.size v qs ∧ Below w.heap.size w w') := by
  obtain ⟨j0, hj, hy0, hy1, hy2⟩ := info_parts info4
  obtain ⟨i0, hi, hz0, hz1, hz2⟩ := info_parts info3
  obtain ⟨i9, hi9, hz90, hz91, hz92⟩ := info_parts info29
  obtain ⟨W1, hmk, hown, hg⟩ := run_make_full (P := Tryz.prog) (w := w) w.heap.size 41 4 j0 (.bool false) 1 (by kernel_rfl) hj hy0 hy1 .i64 .i64 n (by rw [hy2]; omega) (by unfold maxLen; omega) (Nat.le_refl _)
  refine (callsIn_wide (n := 8)).1 ?_
  refine callsIn_of_wp_marks Tryz.func54 rfl trivial ?_ rfl
  simp only [Tryz.ntmps54, List.size_toArray, List.length_cons, List.length_nil, Nat.reduceAdd, Nat.reduceSub, Array.replicate_succ, Array.replicate_zero, List.push_toArray, List.append_toArray, List.nil_append, List.cons_append]
  gi_wp2
  have hsl := (hown.lt w.heap.size rfl).2
  have S2 : Br (W1.alloc (.cells #[.slice (some ⟨w.heap.size, 0, none⟩) n n] 41)) w.heap.size (fun _ => false) n := Tb.old (tb_made hown rfl) _
  have X2 := Boxed.new W1 41 (.slice (some ⟨w.heap.size, 0, none⟩) n n)
  have B2 : Below w.heap.size w (W1.alloc (.cells #[.slice (some ⟨w.heap.size, 0, none⟩) n n] 41)) := ((Below.refl _ w).grown hg (Nat.le_refl _) (by simp)).alloc hg.size _
  clear hown hg hmk
  have HG := Lib.hid hG
  clear hG
  revert hsl S2 X2 B2
  generalize W1.alloc (.cells #[.slice (some ⟨w.heap.size, 0, none⟩) n n] 41) = W2
  generalize hsd : W1.heap.size = sb
  clear hsd
  intro hsl S2 X2 B2
  gi_loopw [3, 16] (fun v t wr => ∃ (k : Nat) (L : List Nat) (seen : Nat → Bool), k ≤ n ∧ t = .int .i64 (k : Int) ∧ Hid (Fst (Eg n G) n k L seen) ∧ Hid (wr.ownsRow w.heap.size 3 1 v L.length (iv L)) ∧ Hid (Br wr w.heap.size seen n) ∧ Hid (Boxed wr sb 41 (.slice (some ⟨w.heap.size, 0, none⟩) n n)) ∧ Hid (Below w.heap.size w wr)) (fun _ t _ => n - (intOf t).toNat)
  case atStart => exact ⟨0, [], fun _ => false, by omega, rfl, Fst.start, World.ownsRow_nil _ _ _ _, S2, X2, B2⟩
  case round =>
    obtain ⟨k, L, seen, hk, rfl, hF, hO, hS, hX, hB⟩ := hrel
    clear S2 X2 B2
    have hLl := hF.out.len
    have cX := hX.out.cell
    by_cases hlt : k < n
    · have hki : (k : Int) < (n : Int) := by omega
      have hk0 : (0 : Int) ≤ (k : Int) := by omega
      have cS := hS.out.cell hlt
      rcases hsk : seen k with _ | _
      · rw [hsk] at cS
        have HW := Lib.hid (walk_any b R n G hn w.heap.size seen k hlt hsk hF.out.shut0 wr (HG.out.up hB.out) hS.out (fun i hi => Nat.ne_of_lt (HG.out.rlt hi)))
        clear hsk
        gi_wp2_with fail
        refine ⟨trivial, ?_⟩
        refine (callsIn_wide.2 HW.out).mono ?_
        rintro e w3 ⟨l, g, c, rfl, hL, hown3, hS3, hO3⟩
        have HL := Lib.hid hL
        have hll := hL.len
        have sS : wr.heap[w.heap.size]? = some (.cells (tab (fun j => .bool (seen j)) n) 4 (0, 0)) := hS.out
        have O3 := Lib.hid (own_same (w' := w3) hO.out fun r hr => hO3.block r (hO.out.lt r hr).2 (fun e => own_tag hO.out sS (by decide) (by rw [hr, e])))
        have X3 : Hid (Boxed w3 sb 41 (.slice (some ⟨w.heap.size, 0, none⟩) n n)) := (hO3.block sb hX.out.lt (by omega)).trans hX.out
        have B3 := Lib.hid (hB.out.trans (hO3.below (by rintro r rfl; exact Nat.le_refl _) hB.out.size))
        have HN := Lib.hid (fun (j : Nat) (u : Value) (h : (iv l)[j]? = some u) => (by
          have := own_cell hown3 h
          rw [Addr.add_lit, Nat.zero_add]; exact this : w3.cell? ((⟨g, 0, none⟩ : Addr).add j) = some u))
        have HS3 := Lib.hid hS3
        have hz3 := B3.out.size
        clear hL hown3 hS3 hO3 sS HW
        gi_wp2_with (gi_at_builtin; refine wpListIn_append_own_at _ rfl _ _ 26 rfl w.heap.size 3 i0 (.int .i64 0) 1 8 Tryz.underlying26 hi hz0 hz1 hz2 rfl (by decide) u3 L.length (iv L) rfl O3.out ⟨g, 0, none⟩ l.length c (iv l) rfl (by rw [iv_len]; omega) HN.out (iv_one l) (by unfold maxLen; omega) (by omega) hz3 ?_; intro v' w4 hown4 hgrow4 hnil4 hat4)
        have sS3 : w3.heap[w.heap.size]? = some (.cells (tab (fun j => .bool (seen j || decide (j ∈ l))) n) 4 (0, 0)) := HS3.out
        have S4 : Br w4 w.heap.size (fun x => seen x || decide (x ∈ l)) n := Tb.same HS3.out (hgrow4.block _ (Tb.lt HS3.out) (own_tag O3.out sS3 (by decide)))
        have X4 : Boxed w4 sb 41 (.slice (some ⟨w.heap.size, 0, none⟩) n n) := X3.out.kept hgrow4 (own_tag O3.out X3.out (by decide))
        have B4 := B3.out.grown hgrow4 hz3 (fun r hr => (O3.out.lt r hr).1)
        have O4 : w4.ownsRow w.heap.size 3 1 v' (L ++ l).length (iv (L ++ l)) := by
          rw [List.length_append, show iv (L ++ l) = iv L ++ iv l by simp [iv]]; exact hown4
        go_roundw
        case rel => exact ⟨k + 1, L ++ l, _, by omega, by go_num, hF.out.more HL.out, O4, S4, X4, B4⟩
        case measure => simp [intOf]; omega
      · rw [hsk] at cS
        have F2 := Lib.hid (hF.out.pass hsk)
        clear hsk
        gi_wp2
        go_roundw
        case rel => exact ⟨k + 1, L, seen, by omega, by go_num, F2.out, hO.out, hS.out, hX.out, hB.out⟩
        case measure => simp [intOf]; omega
    · obtain rfl : k = n := by omega
      have hcl := fun ty => clr_run hS.out ty
      have hsz := hB.out.size
      have S3 : Br (wr.setCells w.heap.size 0 (List.replicate k (.bool false))) w.heap.size (fun _ => false) k := (clr_row k 0 hS.out).congr fun j hj => by rw [if_pos (by omega)]
      have O3 : Off (· = w.heap.size) wr (wr.setCells w.heap.size 0 (List.replicate k (.bool false))) := clr_off (O := (· = w.heap.size)) rfl k 0 (Off.refl _ _)
      have X3 : Boxed (wr.setCells w.heap.size 0 (List.replicate k (.bool false))) sb 41 (.slice (some ⟨w.heap.size, 0, none⟩) k k) := (O3.block sb hX.out.lt (by omega)).trans hX.out
      have B3 := Lib.hid (hB.out.trans (O3.below (by rintro r rfl; exact Nat.le_refl _) hsz))
      have sS : wr.heap[w.heap.size]? = some (.cells (tab (fun j => .bool (seen j)) k) 4 (0, 0)) := hS.out
      have L3 := Lib.hid (own_same (w' := wr.setCells w.heap.size 0 (List.replicate k (.bool false))) hO.out fun r hr => O3.block r (hO.out.lt r hr).2 (fun e => own_tag hO.out sS (by decide) (by rw [hr, e])))
      have HS3 := Lib.hid S3
      have HX3 := Lib.hid X3
      clear S3 O3 X3 hS hO hX hB sS
      revert HS3 HX3 L3 B3 hcl
      generalize hVd : wr.setCells w.heap.size 0 (List.replicate k (.bool false)) = V
      intro hcl B3 L3 HS3 HX3
      have HT := Lib.hid (turned_any b R k G hn V (HG.out.up B3.out))
      have cX3 := HX3.out.cell
      obtain ⟨A3, c3, hu3⟩ : ∃ A c, u3 = .slice A L.length c := by
        rcases L3.out.2 with ⟨h1, h2⟩ | ⟨g, cap, cur, h1, _⟩
        · exact ⟨none, 0, by rw [h1, h2]⟩
        · exact ⟨_, cap, h1⟩
      subst hu3
      gi_wp2_with fail
      refine ⟨trivial, ?_⟩
      refine (callsIn_wide.2 HT.out).mono ?_
      clear hVd hcl cX cX3
      rintro e w5 ⟨bT, RT, rfl, hT, hbT, hRT, B5⟩
      have hX5 : Boxed w5 sb 41 (.slice (some ⟨w.heap.size, 0, none⟩) k k) := (B5.block sb HX3.out.lt).trans HX3.out
      have cX5 := hX5.cell
      gi_wp2_with fail
      refine ⟨trivial, ?_⟩
      refine (callsIn_wide.2 (back_any _ ⟨A3, L.length, c3, rfl⟩ _)).mono ?_
      rintro e w6 ⟨rfl, rfl⟩
      gi_wp2
      have Z5 := Nat.le_trans B3.out.size B5.size
      have BW := (B3.out.trans (B5.mono B3.out.size))
      have B6 : Below w5.heap.size w5 (((w5.alloc (.cells #[.slice (some ⟨bT, 0, none⟩) k k] 83)).alloc (.cells #[.slice none 0 0] 54)).alloc (.cells #[.slice A3 L.length c3] 26)) := (((Below.refl _ w5).alloc (Nat.le_refl _) _).alloc (by simp) _).alloc (by simp; omega) _
      have x6t := ((Boxed.new w5 83 (.slice (some ⟨bT, 0, none⟩) k k)).alloc (.cells #[.slice none 0 0] 54)).alloc (.cells #[.slice A3 L.length c3] 26)
      have x6p := (Boxed.new (w5.alloc (.cells #[.slice (some ⟨bT, 0, none⟩) k k] 83)) 54 (.slice none 0 0)).alloc (.cells #[.slice A3 L.length c3] 26)
      have x6b := Boxed.new ((w5.alloc (.cells #[.slice (some ⟨bT, 0, none⟩) k k] 83)).alloc (.cells #[.slice none 0 0] 54)) 26 (.slice A3 L.length c3)
      have sz6 : (((w5.alloc (.cells #[.slice (some ⟨bT, 0, none⟩) k k] 83)).alloc (.cells #[.slice none 0 0] 54)).alloc (.cells #[.slice A3 L.length c3] 26)).heap.size = w5.heap.size + 3 := by simp
      simp only [World.size_alloc] at x6p x6b
      obtain ⟨W0, hW0⟩ : ∃ W0, ((w5.alloc (.cells #[.slice (some ⟨bT, 0, none⟩) k k] 83)).alloc (.cells #[.slice none 0 0] 54)).alloc (.cells #[.slice A3 L.length c3] 26) = W0 := ⟨_, rfl⟩
      rw [hW0] at x6t x6p x6b B6 sz6 ⊢
      clear hW0
      have S6 : Br W0 w.heap.size (fun _ => false) k := Tb.on (Tb.on HS3.out B5 (Tb.lt HS3.out)) B6 (by have := Tb.lt HS3.out; have := B5.size; omega)
      have X6s : Boxed W0 sb 41 (.slice (some ⟨w.heap.size, 0, none⟩) k k) := (B6.block sb hX5.lt).trans hX5
      have T6 := hT.up B6
      have BW6 := BW.trans (B6.mono Z5)
      have hsl5 := Tb.lt HS3.out
      have hV5 := B5.size
      have hsb5 := HX3.out.lt
      have hbTl := hT.lt
      obtain ⟨LL, hLL⟩ : ∃ LL : List (Th k), LL.map (·.1) = L := ⟨L.pmap (fun x h => ⟨x, h⟩) hF.out.inn, by
        apply List.ext_getElem
        · simp
        · intro i h1 h2
          simp⟩
      have hLLl : LL.length = L.length := by rw [← hLL]; simp
      obtain ⟨gl, hgl, hgs, hgA, hgc⟩ : ∃ gl, gl < w5.heap.size ∧ gl ≠ w.heap.size ∧ (LL ≠ [] → A3 = some ⟨gl, 0, none⟩) ∧ (∀ j x, LL[j]? = some x → W0.cell? ⟨gl, j, none⟩ = some (.int .i64 (x.1 : Int))) := by
        rcases L3.out.2 with ⟨h1, h2⟩ | ⟨g, cap, cur, h1, hb, hh, _⟩
        · have : LL = [] := List.length_eq_zero_iff.1 (by omega)
          subst this
          exact ⟨sb, by omega, by omega, fun h => absurd rfl h, fun j x h => by simp at h⟩
        · have hgV : g < V.heap.size := lt_of_block hh
          simp only [Value.slice.injEq] at h1
          obtain ⟨rfl, _, rfl⟩ := h1
          refine ⟨g, by omega, fun e => ?_, fun _ => rfl, fun j x h => ?_⟩
          · have h3 : V.heap[w.heap.size]? = _ := HS3.out
            rw [e, h3] at hh
            simp only [Option.some.injEq, Obj.cells.injEq] at hh
            exact absurd hh.2.1 (by decide)
          have e1 : (iv L)[j]? = some (.int .i64 (x.1 : Int)) := by
            unfold iv
            rw [← hLL, List.getElem?_map, List.getElem?_map, h]
            rfl
          have := own_cell L3.out e1
          exact (World.cell?_of_block (a := ⟨g, j, none⟩) (B6.block g (by omega))).trans ((World.cell?_of_block (a := ⟨g, j, none⟩) (B5.block g hgV)).trans this)
      have HLL := Lib.hid hLL
      clear hLL
      rw [← hLLl] at x6b
      refine wpIn_rangeFunc_ownG rfl (by omega) (gf := 100) (lb := #[.pointer (some ⟨w5.heap.size + 1 + 1, 0, none⟩)]) rfl trivial (enters_of Tryz.func100 (by kernel_rfl) rfl)
        (stops (8 - 1) (by omega) (w5.heap.size + 1 + 1) gl k A3 c3 LL (by omega) W0 (by omega) (by omega) x6b hgA hgc) kq_t (kq_b (by omega) (by omega)) (Below.refl _ _) (fun _ => rfl)
        (fun pre W => ∃ ps seen v, Ck w W0.heap.size k w.heap.size sb w5.heap.size (w5.heap.size + 1) bT RT G LL pre W ps seen v)
        (fun _ _ _ => False)
        (ck_own (by omega))
        (fun _ _ _ _ _ hs _ _ => hs)
        ⟨[], fun _ => false, .slice none 0 0, ⟨S6, fun x y h => (by cases h), X6s, x6t, x6p, ⟨[], World.ownsRow_nil _ _ _ _, fun i p h => by simp at h⟩, T6, BW6, Nat.le_refl _, fun _ => Snd.start, Nat.le_refl _, fun p h => by simp at h, fun _ => rfl⟩⟩
        (fun x => { tmps := #[.slice (some ⟨b, 0, none⟩) k k, undef, .slice none 0 0, .slice A3 L.length c3, .pointer (some ⟨sb, 0, none⟩), u5, .pointer (some ⟨w5.heap.size, 0, none⟩), .pointer (some ⟨w5.heap.size + 1, 0, none⟩), undef, .int .i64 (x.1.1 : Int), undef, .slice (some ⟨b, 0, none⟩) k k, .int .i64 (k : Int), .slice (some ⟨w.heap.size, 0, none⟩) k k, .slice (some ⟨b, 0, none⟩) k k, .int .i64 (k : Int), .int .i64 (k : Int), .bool false, u18, u19, u20, u21, u22, u23, u24, u25, u26, u27, u28, u29, u30, .slice (some ⟨w.heap.size, 0, none⟩) k k, .slice (some ⟨b, 0, none⟩) k k, .slice (some ⟨bT, 0, none⟩) k k, .slice A3 L.length c3, .func (.func 100) #[] #[.pointer (some ⟨w5.heap.size + 1 + 1, 0, none⟩)], .int .i64 (x.2 : Int), .int .i64 (x.1.1 : Int), undef, undef, undef, undef, undef, undef, undef, undef, undef, undef, undef, undef, undef, undef, undef, undef, undef, undef], defers := [] }) ?assign ?body ?done ?stop
      case assign =>
        intro l x W K hK
        gi_wp2
        simpa [ec] using hK
      case body =>
        rintro l pre ⟨⟨t, ht⟩, ix⟩ W ⟨ps, seen, v, hC⟩ hlen
        have cs := hC.row.cell ht
        have cb := hC.bs.cell
        have ct := hC.bt.cell
        have cp := hC.bp.cell
        have hti : (t : Int) < (k : Int) := by omega
        have ht0 : (0 : Int) ≤ (t : Int) := by omega
        have hWs := hC.size
        rcases hst : seen t with _ | _
        · rw [hst] at cs
          have HST := Lib.hid hst
          have HW := Lib.hid (walk_any bT RT k (fun i j => G j i) hn w.heap.size seen t ht hst hC.shut W hC.grf hC.row (fun i hi => by have := hRT i hi; omega))
          clear hst
          gi_wp2_with fail
          refine ⟨trivial, ?_⟩
          refine (CallsIn.inRound l (callsIn_wide.2 HW.out)).mono ?_
          rintro e w7 ⟨q, g, c, rfl, hL, hown7, hS7, hO7⟩
          clear HW cs cb ct cp
          have hq : ∀ x, x ∈ q → x < k := fun x hx => (hL.inn x hx).2.1
          have hql := hL.len
          have HSo := Lib.hid (sort_any W.heap.size g c q (srt k q) (by omega) hL.nd (srt_rises k q) (mem_srt hq) w7 hown7)
          have hg7 := (hown7.lt g rfl)
          have HL := Lib.hid hL
          clear hL
          gi_wp2_with fail
          refine ⟨trivial, ?_⟩
          refine (CallsIn.inRound l (callsIn_wide.2 HSo.out)).mono ?_
          rintro e w8 ⟨rfl, hown8, hO8⟩
          have hlq : Hid (q.length = (srt k q).length) := len_same HL.out.nd (rises_nodup (srt_rises k q)) (mem_srt hq)
          have hz7 := hO7.size
          have hz8 := hO8.size
          have hsW := Tb.lt hC.row
          have hpW := hC.bp.lt
          have K8 : ∀ r, r < W.heap.size → r ≠ w.heap.size → w8.heap[r]? = W.heap[r]? := fun r hr hne => (hO8.block r (by omega) (by omega)).trans (hO7.block r hr hne)
          obtain ⟨hs, ho, hir⟩ := hC.prt
          have sW : W.heap[w.heap.size]? = some (.cells (tab (fun j => .bool (seen j)) k) 4 (0, 0)) := hC.row
          have vlt : ∀ r, v.ownBlock = some r → W0.heap.size ≤ r ∧ r < W.heap.size := fun r hr => ho.lt r hr
          have ho8 := own_same (w' := w8) ho fun r hr => K8 r (vlt r hr).2 (by have := (vlt r hr).1; omega)
          have hX8 : Boxed w8 (w5.heap.size + 1) 54 v := (K8 _ hpW (by omega)).trans hC.bp
          have cp8 := hX8.cell
          have HO9 := Lib.hid (own_same (w' := w8.alloc (.cells #[.slice (some ⟨g, 0, none⟩) q.length c] 26)) ho8 fun r hr => heap_alloc_old _ _ (by have := (vlt r hr).2; omega))
          have HN9 := Lib.hid (heap_alloc_new w8 (.cells #[.slice (some ⟨g, 0, none⟩) q.length c] 26))
          have hXa : Boxed (w8.alloc (.cells #[.slice (some ⟨g, 0, none⟩) q.length c] 26)) (w5.heap.size + 1) 54 v := hX8.alloc _
          have hpl := hC.few
          have HXa := Lib.hid hXa
          have HX8 := Lib.hid hX8
          have HO8 := Lib.hid ho8
          have HK8 := Lib.hid K8
          have Hvlt := Lib.hid vlt
          have HI := Lib.hid hir
          have Hown8 := Lib.hid hown8
          have HS7 := Lib.hid hS7
          have H7 := Lib.hid hO7
          have H8 := Lib.hid hO8
          have HsW := Lib.hid sW
          have Ho := Lib.hid ho
          clear hX8 ho8 K8 vlt hir hown8 hS7 hO7 hO8 sW ho hown7 HSo hXa
          gi_wp2_with (gi_at_builtin; refine wpListIn_append_own_at _ rfl _ _ 54 rfl W0.heap.size 26 i9 (.slice none 0 0) 1 24 Tryz.underlying54 hi9 hz90 hz91 hz92 rfl (by decide) v ps.length hs rfl HO9.out ⟨w8.heap.size, 0, none⟩ 1 1 [.slice (some ⟨g, 0, none⟩) q.length c] rfl rfl (World.news_of_block HN9.out) (by intro u hu; simp at hu; subst hu; rfl) (by unfold maxLen; omega) (by omega) (by simp; omega) ?_; intro v' w9 hown9 hgrow9 hnil9 hat9; obtain ⟨g9, c9, rfl⟩ := ownsRow_succ hown9; have hX9 : Boxed w9 (w5.heap.size + 1) 54 v := HXa.out.kept hgrow9 (HXa.out.not_row (by decide) HO9.out); have cp9 := hX9.cell; have fp9 := hX9.frozen; have Hown9 := Lib.hid hown9; have Hgrow9 := Lib.hid hgrow9; have HX9 := Lib.hid hX9; clear hown9 hgrow9 hX9)
          have hz9 := Hgrow9.out.size
          simp only [World.size_alloc] at hz9
          have hk9 : (w9.setCell ⟨w5.heap.size + 1, 0, none⟩ (.slice (some ⟨g9, 0, none⟩) (ps.length + 1) c9)).heap.size = w9.heap.size := by simp
          have K9 : ∀ r, r < w8.heap.size → some r ≠ v.ownBlock → r ≠ w5.heap.size + 1 → (w9.setCell ⟨w5.heap.size + 1, 0, none⟩ (.slice (some ⟨g9, 0, none⟩) (ps.length + 1) c9)).heap[r]? = w8.heap[r]? := fun r hr h1 h2 =>
            (Below.heap_setCell _ _ _ r h2).trans ((Hgrow9.out.block r (by simp; omega) h1).trans (heap_alloc_old _ _ hr))
          have nb : ∀ r, r < W0.heap.size → some r ≠ v.ownBlock := fun r hr e => by have := (Hvlt.out r e.symm).1; omega
          have K7 : ∀ r, r < W.heap.size → r ≠ w.heap.size → some r ≠ v.ownBlock → r ≠ w5.heap.size + 1 → (w9.setCell ⟨w5.heap.size + 1, 0, none⟩ (.slice (some ⟨g9, 0, none⟩) (ps.length + 1) c9)).heap[r]? = W.heap[r]? := fun r hr h1 h2 h3 => (K9 r (by omega) h2 h3).trans (HK8.out r hr h1)
          have hrow : Br (w9.setCell ⟨w5.heap.size + 1, 0, none⟩ (.slice (some ⟨g9, 0, none⟩) (ps.length + 1) c9)) w.heap.size (fun x => seen x || decide (x ∈ q)) k :=
            Tb.same (Tb.same HS7.out (H8.out.block w.heap.size (by omega) (by omega))) (K9 _ (by omega) (nb _ (by omega)) (by omega))
          have hu8 : Ut 3 W w8 := fun r cs hr => by
            have hrW := lt_of_block hr
            refine (HK8.out r hrW fun e => ?_).trans hr
            rw [e, HsW.out] at hr
            simp only [Option.some.injEq, Obj.cells.injEq] at hr
            exact absurd hr.2.1 (by decide)
          have hu9 : Ut 3 w8 (w9.setCell ⟨w5.heap.size + 1, 0, none⟩ (.slice (some ⟨g9, 0, none⟩) (ps.length + 1) c9)) := fun r cs hr => by
            refine (K9 r (lt_of_block hr) (own_tag HO8.out hr (by decide)) fun e => ?_).trans hr
            have := HX8.out
            unfold Boxed at this
            rw [e, this] at hr
            simp only [Option.some.injEq, Obj.cells.injEq] at hr
            exact absurd hr.2.1 (by decide)
          have hwon : (w9.setCell ⟨w5.heap.size + 1, 0, none⟩ (.slice (some ⟨g9, 0, none⟩) (ps.length + 1) c9)).ownsRow W0.heap.size 26 1 (.slice (some ⟨g9, 0, none⟩) (ps.length + 1) c9) (ps ++ [srt k q]).length (hs ++ [.slice (some ⟨g, 0, none⟩) q.length c]) := by
            rw [List.length_append]
            refine own_same Hown9.out fun r hr => Below.heap_setCell _ _ _ r ?_
            have := (Hown9.out.lt r hr).1
            show r ≠ w5.heap.size + 1
            omega
          have hprt : Pr (w9.setCell ⟨w5.heap.size + 1, 0, none⟩ (.slice (some ⟨g9, 0, none⟩) (ps.length + 1) c9)) W0.heap.size (.slice (some ⟨g9, 0, none⟩) (ps.length + 1) c9) (ps ++ [srt k q]) := by
            have hhl : hs.length = ps.length := by have := Ho.out.1; omega
            refine ⟨_, hwon, fun i p hp => ?_⟩
            rcases Nat.lt_or_ge i ps.length with hi' | hi'
            · rw [List.getElem?_append_left hi'] at hp
              obtain ⟨x, h1, h2⟩ := HI.out i p hp
              exact ⟨x, by rw [List.getElem?_append_left (by omega)]; exact h1, (h2.ut hu8).ut hu9⟩
            · rw [List.getElem?_append_right hi'] at hp
              have hi0 : i - ps.length = 0 := by
                have := (List.getElem?_eq_some_iff.1 hp).1
                simp at this; omega
              rw [hi0] at hp
              simp at hp
              subst hp
              refine ⟨_, by rw [List.getElem?_append_right (by omega), hhl, hi0]; rfl, ?_⟩
              rw [hlq.out]
              exact ⟨(ir_own Hown8.out rfl).ut hu9, fun r hr => by obtain rfl : g = r := Option.some.inj hr; have := (Hown8.out.lt g rfl).1; omega⟩
          have hbel : Below w.heap.size w (w9.setCell ⟨w5.heap.size + 1, 0, none⟩ (.slice (some ⟨g9, 0, none⟩) (ps.length + 1) c9)) := by
            have b7 := hC.bel.trans (H7.out.below (by rintro r rfl; exact Nat.le_refl _) (by omega))
            have b8 := b7.trans (H8.out.below (D := w.heap.size) (by rintro r rfl; omega) (by omega))
            have b9 := (b8.alloc (by omega) (.cells #[.slice (some ⟨g, 0, none⟩) q.length c] 26)).grown Hgrow9.out (by simp; omega) (fun r hr => by have := (Hvlt.out r hr).1; omega)
            exact b9.setCell (by show w.heap.size ≤ w5.heap.size + 1; omega) _
          have hcell : ∀ r cs t, W.heap[r]? = some (.cells cs t (0, 0)) → r < W0.heap.size → r ≠ w.heap.size → r ≠ w5.heap.size + 1 → (w9.setCell ⟨w5.heap.size + 1, 0, none⟩ (.slice (some ⟨g9, 0, none⟩) (ps.length + 1) c9)).heap[r]? = some (.cells cs t (0, 0)) := fun r cs t h h1 h2 h3 => (K7 r (lt_of_block h) h2 (nb r h1) h3).trans h
          refine ⟨⟨by omega, fun r o hr ho hc => ?_⟩, ⟨K7 _ (by omega) (by omega) (nb _ (by omega)) (by omega), K7 _ (by omega) hgs (nb _ (by omega)) (by omega)⟩, ps ++ [srt k q], fun x => seen x || decide (x ∈ q), _, ⟨hrow, fun x y hx e => ?_, hcell _ _ _ hC.bs (by omega) (by omega) (by omega), hcell _ _ _ hC.bt (by omega) (by omega) (by omega), HX9.out.set _, hprt, ?_, hbel, by omega, fun hp => ?_, by simp; omega, fun p hp => ?_, fun e => by simp at e⟩⟩
          · refine (K7 r (lt_of_block ho) (fun e => ?_) (fun e => ?_) (fun e => ?_)).trans ho
            · omega
            · obtain ⟨cs9, h9⟩ : ∃ cs9, W.heap[r]? = some (.cells cs9 26 (0, 0)) := by
                rcases Ho.out.2 with ⟨h0, _⟩ | ⟨g', cap, cur, hv, _, hh, _⟩
                · rw [h0] at e; simp [Value.ownBlock] at e
                · rw [hv] at e
                  have : r = g' := by simpa [Value.ownBlock] using e
                  exact ⟨cur, by rw [this]; exact hh⟩
              rw [h9] at ho
              cases ho
              cases hc
            · omega
          · simp only [Bool.or_eq_true, decide_eq_true_eq] at hx ⊢
            rcases hx with hx | hx
            · exact .inl (hC.shut x y hx e)
            · exact (HL.out.all y ((HL.out.inn x hx).2.2.step e)).symm
          · exact hC.grf.same (K7 _ hC.grf.lt (by omega) (nb _ (by omega)) (by omega)) fun i hi' => K7 _ (hC.grf.rlt hi') (by have := hRT i hi'; omega) (nb _ (by have := hT.rlt hi'; omega)) (by have := hT.rlt hi'; omega)
          · exact snd_step HLL.out hF.out (hC.snd ((List.prefix_append pre _).trans hp)) hp HST.out HL.out
          · rcases List.mem_append.1 hp with hp | hp
            · exact hC.ne p hp
            · obtain rfl : p = srt k q := by simpa using hp
              have htq : t ∈ q := by
                rcases HL.out.all t .refl with h | h
                · exact h
                · rw [HST.out] at h; cases h
              intro e
              have := (mem_srt hq t).1 htq
              rw [e] at this
              simp at this
        · rw [hst] at cs
          have hC2 := Lib.hid (ck_pass hC (⟨t, ht⟩, ix) hst)
          clear hst
          gi_wp2
          exact ⟨KeepsFrom.refl _ _, ⟨rfl, rfl⟩, ps, seen, v, hC2.out⟩
      case done =>
        rintro D ys W hD rfl ⟨ps, seen, v, hC⟩ hK
        have hS := hC.snd (List.prefix_refl _)
        have hLs : (seq LL).reverse.map (fun x => x.1.1) = L := by
          rw [List.map_reverse, val_seq, List.reverse_reverse]
          exact HLL.out
        rw [hLs] at hS
        have HS := Lib.hid hS
        have hpsl : ps.length ≤ 1000 := by
          have := hC.few
          rw [seq_len] at this
          omega
        have cp := hC.bp.cell
        have hWs := hC.size
        have hBW := hC.bel
        clear hS hLs hlt
        by_cases hps : ps = []
        · subst hps
          obtain rfl := hC.nl rfl
          have HN := Lib.hid (sortnone_any (.func (.func 83) #[] #[]) W)
          have hRem := Lib.hid (HS.out.rem (fun x hx => hF.out.upto x hx) (List.Perm.refl _) List.Pairwise.nil)
          gi_wp2_with fail
          refine ⟨trivial, ?_⟩
          refine (callsIn_wide.2 HN.out).mono ?_
          rintro e w7 ⟨rfl, rfl⟩
          gi_wp2
          refine ⟨by simp, .inl ⟨_, _, rfl, run_takeDeferred hK, ?_⟩⟩
          exact ⟨_, results_tmp rfl _ _ _, [], .slice none 0 0, rfl, hRem.out, ⟨[], World.ownsRow_nil _ _ _ _, fun i p h => by simp at h⟩, hBW.trans (belowK_b (w := w) (Nat.le_refl _) w7 D _ _ (by omega) hK rfl rfl)⟩
        · have hpos : 0 < ps.length := List.length_pos_iff.2 hps
          obtain ⟨g, c, rfl, hg1, hg2⟩ : ∃ g c, v = .slice (some ⟨g, 0, none⟩) ps.length c ∧ W0.heap.size ≤ g ∧ g < W.heap.size := by
            obtain ⟨hs, ho, _⟩ := hC.prt
            exact ho.form hpos
          have HSo := Lib.hid (sortfunc_any W0.heap.size g c ps hC.ne hps hpsl W hC.prt)
          obtain ⟨cs9, hg9⟩ := hC.prt.row
          have HC := Lib.hid hC
          clear hC
          gi_wp2_with fail
          refine ⟨trivial, ?_⟩
          refine (callsIn_wide.2 HSo.out).mono ?_
          rintro e w7 ⟨rfl, qs, hp, hso, hpr, hO⟩
          have hRem := Lib.hid (HS.out.rem (fun x hx => hF.out.upto x hx) hp hso)
          have hql : Hid (qs.length = ps.length) := hp.length_eq
          have cp7 : w7.cell? ⟨w5.heap.size + 1, 0, none⟩ = some (.slice (some ⟨g, 0, none⟩) ps.length c) := (World.cell?_of_block (a := ⟨w5.heap.size + 1, 0, none⟩) (hO.block (w5.heap.size + 1) HC.out.bp.lt (by omega))).trans HC.out.bp.cell
          have hK7 : w7.heap[D]? = some (.deferred (some [])) := (hO.block D (lt_of_block hK) (by rintro rfl; rw [hg9] at hK; cases hK)).trans hK
          have hB7 := hBW.trans (hO.below (D := w.heap.size) (by rintro r rfl; omega) (by omega))
          have HPR := Lib.hid hpr
          clear hpr hO cp hp hso
          gi_wp2
          refine ⟨by simp, .inl ⟨_, _, rfl, run_takeDeferred hK7, ?_⟩⟩
          obtain ⟨hs, ho, hi'⟩ := HPR.out
          have hkc : Kc w7 (w7.putObj D (.deferred none)) := Kc.of_own (grownBy_putObj' w7 D _) fun r e => by cases e; exact ⟨_, hK7, rfl⟩
          exact ⟨_, results_tmp rfl _ _ _, qs, .slice (some ⟨g, 0, none⟩) qs.length c, by rw [hql.out]; rfl, hRem.out, hkc.pr ⟨hs, own_mono ho (by omega), fun i p hp => by obtain ⟨x, h1, h2⟩ := hi' i p hp; exact ⟨x, h1, h2.mono (by omega)⟩⟩, hB7.trans (belowK_b (w := w) (Nat.le_refl _) w7 D _ _ (by omega) hK7 rfl rfl)⟩
      case stop =>
        rintro D c pre W _ _ h _
        exact h.elim

end Go.Proofs.YtgpciipemgljcaaGreat.Gp

/-
  slices.Delete of one part, in the words of this seat's memory. No conditions.
-/
namespace Go.Proofs.YtgpciipemgljcaaGreat.Gp
open Go.RowKit Go.Shelf Go.Sort
set_option linter.unusedVariables false

/-- A value of one cell. -/
abbrev Oc := {v : Value // v.oneCell' = true}
def zo : Oc := ⟨.slice none 0 0, rfl⟩
instance : Inhabited Oc := ⟨zo⟩
theorem ir_oc {w : World} {h : Value} {p : List Nat} (hi : Ir w h p) : h.oneCell' = true := by
  obtain ⟨_, _, _, rfl, _⟩ := hi
  rfl

theorem delete_any (base g c : Nat) (A C : List (List Nat)) (p : List Nat) (w : World) (h : Pr w base (.slice (some ⟨g, 0, none⟩) (A ++ p :: C).length c) (A ++ p :: C)) :
    Calls Tryz.prog 79 #[.slice (some ⟨g, 0, none⟩) (A ++ p :: C).length c, .int .i64 (A.length : Int), .int .i64 ((A.length : Int) + 1)] w (fun e w' => e = .returned (.slice (some ⟨g, 0, none⟩) (A ++ C).length c) ∧ Pr w' base (.slice (some ⟨g, 0, none⟩) (A ++ C).length c) (A ++ C) ∧ Off (· = g) w w') := by
  obtain ⟨cs, hcs⟩ := h.row
  obtain ⟨hs, ho, hi⟩ := h
  have hhl : hs.length = (A ++ p :: C).length := by have := ho.1; omega
  have hoc : ∀ u, u ∈ hs → u.oneCell' = true := fun u hu => by
    obtain ⟨i, hiu⟩ := List.getElem?_of_mem hu
    have hil : i < (A ++ p :: C).length := by rw [← hhl]; exact (List.getElem?_eq_some_iff.1 hiu).1
    obtain ⟨x, h1, h2⟩ := hi i _ (List.getElem?_eq_getElem hil)
    rw [hiu] at h1
    cases h1
    exact ir_oc h2.1
  obtain ⟨l, hl⟩ : ∃ l : List Oc, l.map (·.1) = hs := ⟨hs.pmap (fun x h => ⟨x, h⟩) hoc, by
    apply List.ext_getElem
    · simp
    · intro i h1 h2
      simp⟩
  have hll : l.length = (A ++ p :: C).length := by rw [← hhl, ← hl]; simp
  have hll2 : l.length = A.length + 1 + C.length := by rw [hll]; simp; omega
  obtain ⟨i0, hi0, hz0, hz1, hz2⟩ := info_parts info29
  rw [← hl] at ho
  have hcap : (A ++ p :: C).length ≤ c ∧ c ≤ maxLen := by
    rcases ho.2 with ⟨h0, _⟩ | ⟨g', cap, cur, hv, _, _, h1, h2, _⟩
    · cases h0
    · simp only [Value.slice.injEq] at hv
      obtain ⟨_, _, rfl⟩ := hv
      exact ⟨h1, h2⟩
  have hcon := slices_Delete (fun x : Oc => x.1) (fun x => x.2) zo (fun w => Tryz.zeroValue26 w) i0 hi0 hz1 g 0 c A.length (A.length + 1) l.toArray w (holds_own ho) (by simp; omega) (by have := hcap.2; unfold maxLen at this; omega) (by omega) (by simp; omega)
  rw [show l.toArray.size = (A ++ p :: C).length by simpa using hll] at hcon
  refine hcon.mono ?_
  rintro e w' ⟨rfl, q, rfl⟩
  have e1 : (A ++ p :: C).length - (A.length + 1 - A.length) = (A ++ C).length := by simp
  obtain ⟨D, hD⟩ : ∃ D : Array Oc, (l.toArray.toList.take A.length ++ l.toArray.toList.drop (A.length + 1) ++ List.replicate (A.length + 1 - A.length) zo).toArray = D := ⟨_, rfl⟩
  have hDl : D.size = (A ++ p :: C).length := by rw [← hD]; simp; omega
  have e2 : D.toList.map (fun x : Oc => x.1) = (hs.take A.length ++ hs.drop (A.length + 1)) ++ [.slice none 0 0] := by
    rw [← hD, ← hl, Nat.add_sub_cancel_left]
    simp [zo]
  rw [hD, e1]
  have hoff : Off (· = g) w (putRow (fun x : Oc => x.1) (Sort.ahead w q) g 0 D) := by
    have := put_off (enc := fun x : Oc => x.1) (w := w) (g := g) (k := q) (os := #[]) D
    rwa [grow_empty] at this
  have hput := put_own (enc := fun x : Oc => x.1) (k := q) (os := #[]) ho D hDl
  rw [grow_empty, e2, show (A ++ p :: C).length = (A ++ C).length + 1 by simp; omega] at hput
  have hu : Ut 3 w (putRow (fun x : Oc => x.1) (Sort.ahead w q) g 0 D) := Ut.of_off hoff hcs (by decide)
  refine ⟨rfl, ?_, hoff⟩
  refine ⟨hs.take A.length ++ hs.drop (A.length + 1), own_cut hput, fun i r hr => ?_⟩
  rcases Nat.lt_or_ge i A.length with hlt | hge
  · rw [List.getElem?_append_left hlt] at hr
    obtain ⟨x, h1, h2⟩ := hi i r (by rw [List.getElem?_append_left hlt]; exact hr)
    refine ⟨x, ?_, h2.ut hu⟩
    rw [List.getElem?_append_left (by rw [List.length_take]; omega), List.getElem?_take_of_lt hlt]
    exact h1
  · rw [List.getElem?_append_right hge] at hr
    obtain ⟨x, h1, h2⟩ := hi (i + 1) r (by rw [List.getElem?_append_right (by omega), show i + 1 - A.length = (i - A.length) + 1 by omega, List.getElem?_cons_succ]; exact hr)
    refine ⟨x, ?_, h2.ut hu⟩
    rw [List.getElem?_append_right (by rw [List.length_take]; omega), List.length_take, List.getElem?_drop]
    rw [show A.length + 1 + (i - min A.length hs.length) = i + 1 by simp at hhl; omega]
    exact h1

end Go.Proofs.YtgpciipemgljcaaGreat.Gp
