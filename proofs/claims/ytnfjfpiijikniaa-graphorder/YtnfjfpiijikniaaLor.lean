/-
  The walk of the law GraphOrder. No conditions.
-/
import Derived.Test.YtnfjfpiijikniaaPl
import Derived.Test.YtnfjfpiijikniaaLrc
namespace Go.Proofs.Ytnfjfpiijikniaa.Gp
open Go.RowKit
set_option linter.unusedVariables false

theorem rz_nat {n : Int} {l : List (Int × Int)} {m a b : Nat} (hn : am n = m) (ha : a < m) (hb : b < m) (h : Rt (Ed m l) a b) : rz n l (a : Int) (b : Int) = true := by
  subst hn
  exact rz_iff.2 ⟨⟨by omega, by omega⟩, ⟨by omega, by omega⟩, h⟩
theorem rz_not {n : Int} {l : List (Int × Int)} {m a b : Nat} (hn : am n = m) (h : ¬ Rt (Ed m l) a b) : rz n l (a : Int) (b : Int) = false := by
  subst hn
  refine Bool.eq_false_iff.2 fun e => h ?_
  have := (rz_iff.1 e).2.2
  simpa using this

set_option maxRecDepth 100000 in
set_option maxHeartbeats 4000000 in
theorem lorder_core (n : Int) (m : Nat) (hnm : n = (m : Int)) (hm : m ≤ 30) (A : Option Addr) (c : Nat) (l : List (Int × Int)) (hl : l.length ≤ 300) (w : World) (hs : Es w w.heap.size A l) : Calls Try.prog 5 #[.int .i64 n, .slice A l.length c] w (UpPost w) := by
  have ham : am n = m := by unfold am; omega
  have h1 : 0 ≤ n := by omega
  have h2 : n ≤ 30 := by omega
  have HW := Lib.hid (awake_any w)
  have HS := Lib.hid hs
  have HN := Lib.hid hnm
  have HQ := Lib.hid (fun f t W h => Reaches_any n A c l f t (by omega) W h)
  have HC := Lib.hid (fun W h => ComponentsP_any n A c l (by omega) W h)
  unfold OutPr at HC
  rw [ham] at HC
  have HRT : Hid (∀ a b : Nat, a < m → b < m → Rt (Ed m l) a b → rz n l (a : Int) (b : Int) = true) := fun a b ha hb h => rz_nat ham ha hb h
  have HRN : Hid (∀ a b : Nat, ¬ Rt (Ed m l) a b → rz n l (a : Int) (b : Int) = false) := fun a b h => rz_not ham h
  have d0 : decide (n < 0) = false := decide_eq_false (by omega)
  have d1 : decide (30 < n) = false := decide_eq_false (by omega)
  have d2 : decide ((300 : Int) < (l.length : Int)) = false := decide_eq_false (by omega)
  have HEd := Lib.hid (ed_in m l)
  clear hnm ham hs
  go_enter Try.func5, Try.ntmps5
  go_wp2_with fail
  refine HW.out.mono ?_
  rintro e w1 ⟨rfl, B1⟩
  go_wp2_with fail
  refine (HC.out w1 (HS.out.to B1 B1.size)).mono ?_
  rintro e w2 ⟨out, hO, A2, c2, bs, rfl, hP, B2⟩
  have HB2 := Lib.hid (B1.trans (B2.mono B1.size))
  have HO := Lib.hid hO
  have Ho := Lib.hid (hO.ot0 HEd.out)
  have Hmany := Lib.hid (hO.many HEd.out)
  have hol := hO.len
  obtain ⟨X, y, e2, hA2⟩ := hP.form
  simp only [Value.slice.injEq] at e2
  obtain ⟨rfl, _, rfl⟩ := e2
  have HP := Lib.hid hP
  have HA2 := Lib.hid hA2
  clear hP hA2 hO B1 B2
  go_wp2
  go_loopg [7, 8] out.length (fun q mv t W => ∃ k : Nat, k + q = out.length ∧ t = .int .i64 (k : Int) ∧ mv = .int .i64 (cn out k : Int) ∧ Hid (Below w2.heap.size w2 W))
  case atStart => exact ⟨0, by omega, rfl, by rw [cn_zero]; rfl, Below.refl _ _⟩
  case round =>
    obtain ⟨k, hk, rfl, rfl, hB⟩ := hrel
    by_cases hlt : k < out.length
    · have hki : (k : Int) < (out.length : Int) := by omega
      have hk0 : (0 : Int) ≤ (k : Int) := by omega
      obtain ⟨g, rfl⟩ := HA2.out (by omega)
      obtain ⟨gi, ci, k1, q1⟩ := pr_at HP.out (i := k) rfl (List.getElem?_eq_getElem hlt)
      have hgl : g < w2.heap.size := by
        obtain ⟨hs, ho, _⟩ := HP.out
        exact (ho.lt g rfl).2
      have HCN := Lib.hid (cn_succ out k hlt)
      have hcn : cn out (k + 1) ≤ m := by have := cn_le out (k + 1); have := Hmany.out; omega
      obtain ⟨kx, hkx, hpk⟩ := HO.out.isc out[k] (List.getElem_mem hlt)
      have Hri : Hid (out[k].Pairwise (· < ·)) := by rw [hpk]; exact cmp_rises kx
      have Hin : Hid (∀ x, x ∈ out[k] → x < m) := fun x hx => by rw [hpk] at hx; exact (mem_cmp.1 hx).1
      have Hrt : Hid (∀ x y, x ∈ out[k] → y ∈ out[k] → Rt (Ed m l) x y) := fun x y hx hy => by
        rw [hpk] at hx hy
        exact (mem_cmp.1 hx).2.2.trans (mem_cmp.1 hy).2.1
      have hp0 : 0 < out[k].length := by
        rw [hpk]
        exact List.length_pos_iff.2 (fun e => by have := cmp_self (E := Ed m l) hkx; rw [e] at this; simp at this)
      have Q1 := Lib.hid q1
      have K1 := Lib.hid k1
      have hck : wr.cell? ⟨g, k, none⟩ = some (.slice (some ⟨gi, 0, none⟩) out[k].length ci) := (hB.out.cell (p := ⟨g, k, none⟩) hgl).trans k1
      have hcn2 : cn out k + out[k].length ≤ m := by have := HCN.out; omega
      clear q1 k1 hpk
      generalize out[k] = p at *
      have HCk : Hid (((cn out (k + 1) : Nat) : Int) = (cn out k : Int) + (p.length : Int)) := by have := HCN.out; show _ = _; omega
      generalize cn out k = cq at *
      go_wp2
      have Hgi : Hid (gi < w2.heap.size) := World.block_lt_of_cell? w2 ⟨gi, 0, none⟩ (Q1.out 0 _ (List.getElem?_eq_getElem hp0))
      have hpl : p.length ≤ 30 := by omega
      go_loopg [9] (p.length - 1) (fun q t W => ∃ j : Nat, 1 ≤ j ∧ j + q = p.length ∧ t = .int .i64 (j : Int) ∧ Hid (Below w2.heap.size w2 W))
      case atStart => exact ⟨1, by omega, by omega, rfl, hB.out⟩
      case round =>
        obtain ⟨j, hj1, hjq, rfl, hBj⟩ := hrel
        have hckj : wr.cell? ⟨g, k, none⟩ = some (.slice (some ⟨gi, 0, none⟩) p.length ci) := (hBj.out.cell (p := ⟨g, k, none⟩) hgl).trans K1.out
        clear hck
        by_cases hjt : j < p.length
        · have hji : (j : Int) < (p.length : Int) := by omega
          have hj0 : (0 : Int) ≤ (j : Int) := by omega
          have hp0i : (0 : Int) < (p.length : Int) := by omega
          obtain ⟨i, hi⟩ : ∃ i, i = j - 1 := ⟨_, rfl⟩
          have hil : i < p.length := by omega
          have hii : (i : Int) < (p.length : Int) := by omega
          have hi00 : (0 : Int) ≤ (i : Int) := by omega
          have hwr : IntKind.i64.wrap ((j : Int) - 1) = (i : Int) := by rw [IntWalk.i64_in _ (by omega)]; omega
          have qa := Q1.out 0 _ (List.getElem?_eq_getElem hp0)
          have qt := Q1.out j _ (List.getElem?_eq_getElem hjt)
          have qu := Q1.out i _ (List.getElem?_eq_getElem hil)
          have hlt2 : p[i] < p[j] := List.pairwise_iff_getElem.1 Hri.out i j hil hjt (by omega)
          have za := HRT.out p[0] p[j] (Hin.out _ (List.getElem_mem hp0)) (Hin.out _ (List.getElem_mem hjt)) (Hrt.out _ _ (List.getElem_mem hp0) (List.getElem_mem hjt))
          have zb := HRT.out p[j] p[0] (Hin.out _ (List.getElem_mem hjt)) (Hin.out _ (List.getElem_mem hp0)) (Hrt.out _ _ (List.getElem_mem hjt) (List.getElem_mem hp0))
          clear hi
          generalize p[0] = a at *
          generalize p[j] = t at *
          generalize p[i] = u at *
          have e1 : decide ((t : Int) ≤ (u : Int)) = false := decide_eq_false (by omega)
          have e1n : decide (t ≤ u) = false := decide_eq_false (by omega)
          have hgiw := hBj.out.size
          have hgz := Hgi.out
          have S0 : (wr.cell? ⟨g, k, none⟩ = some (.slice (some ⟨gi, 0, none⟩) p.length ci) ∧ wr.cell? ⟨gi, 0, none⟩ = some (.int .i64 (a : Int)) ∧ wr.cell? ⟨gi, j, none⟩ = some (.int .i64 (t : Int)) ∧ wr.cell? ⟨gi, i, none⟩ = some (.int .i64 (u : Int))) ∧ Below wr.heap.size wr wr := ⟨⟨hckj, (hBj.out.cell (p := ⟨gi, 0, none⟩) hgz).trans qa, (hBj.out.cell (p := ⟨gi, j, none⟩) hgz).trans qt, (hBj.out.cell (p := ⟨gi, i, none⟩) hgz).trans qu⟩, Below.refl _ _⟩
          have KS : Hid (∀ v v', Below v.heap.size v v' → ((v.cell? ⟨g, k, none⟩ = some (.slice (some ⟨gi, 0, none⟩) p.length ci) ∧ v.cell? ⟨gi, 0, none⟩ = some (.int .i64 (a : Int)) ∧ v.cell? ⟨gi, j, none⟩ = some (.int .i64 (t : Int)) ∧ v.cell? ⟨gi, i, none⟩ = some (.int .i64 (u : Int))) ∧ Below wr.heap.size wr v) → ((v'.cell? ⟨g, k, none⟩ = some (.slice (some ⟨gi, 0, none⟩) p.length ci) ∧ v'.cell? ⟨gi, 0, none⟩ = some (.int .i64 (a : Int)) ∧ v'.cell? ⟨gi, j, none⟩ = some (.int .i64 (t : Int)) ∧ v'.cell? ⟨gi, i, none⟩ = some (.int .i64 (u : Int))) ∧ Below wr.heap.size wr v')) := fun v v' hb h => by
            have hz := h.2.size
            refine ⟨⟨?_, ?_, ?_, ?_⟩, h.2.trans (hb.mono hz)⟩
            · exact (hb.cell (p := ⟨g, k, none⟩) (show g < _ by omega)).trans h.1.1
            · exact (hb.cell (p := ⟨gi, 0, none⟩) (show gi < _ by omega)).trans h.1.2.1
            · exact (hb.cell (p := ⟨gi, j, none⟩) (show gi < _ by omega)).trans h.1.2.2.1
            · exact (hb.cell (p := ⟨gi, i, none⟩) (show gi < _ by omega)).trans h.1.2.2.2
          have KD : Hid (∀ v, ((v.cell? ⟨g, k, none⟩ = some (.slice (some ⟨gi, 0, none⟩) p.length ci) ∧ v.cell? ⟨gi, 0, none⟩ = some (.int .i64 (a : Int)) ∧ v.cell? ⟨gi, j, none⟩ = some (.int .i64 (t : Int)) ∧ v.cell? ⟨gi, i, none⟩ = some (.int .i64 (u : Int))) ∧ Below wr.heap.size wr v) → ((v.drew.cell? ⟨g, k, none⟩ = some (.slice (some ⟨gi, 0, none⟩) p.length ci) ∧ v.drew.cell? ⟨gi, 0, none⟩ = some (.int .i64 (a : Int)) ∧ v.drew.cell? ⟨gi, j, none⟩ = some (.int .i64 (t : Int)) ∧ v.drew.cell? ⟨gi, i, none⟩ = some (.int .i64 (u : Int))) ∧ Below wr.heap.size wr v.drew)) := fun v h => KS.out v v.drew (Below.refl _ _).drew h
          have HR1 : Hid (∀ v, ((v.cell? ⟨g, k, none⟩ = some (.slice (some ⟨gi, 0, none⟩) p.length ci) ∧ v.cell? ⟨gi, 0, none⟩ = some (.int .i64 (a : Int)) ∧ v.cell? ⟨gi, j, none⟩ = some (.int .i64 (t : Int)) ∧ v.cell? ⟨gi, i, none⟩ = some (.int .i64 (u : Int))) ∧ Below wr.heap.size wr v) → Calls Try.prog 17 #[.int .i64 n, .slice A l.length c, .int .i64 (a : Int), .int .i64 (t : Int)] v (BoolPost v true)) := fun v h => by
            have := HQ.out (a : Int) (t : Int) v (HS.out.to ((HB2.out.trans (hBj.out.mono HB2.out.size)).trans (h.2.mono (Nat.le_trans HB2.out.size hgiw))) (Nat.le_trans (Nat.le_trans HB2.out.size hgiw) h.2.size))
            rwa [za] at this
          have HR2 : Hid (∀ v, ((v.cell? ⟨g, k, none⟩ = some (.slice (some ⟨gi, 0, none⟩) p.length ci) ∧ v.cell? ⟨gi, 0, none⟩ = some (.int .i64 (a : Int)) ∧ v.cell? ⟨gi, j, none⟩ = some (.int .i64 (t : Int)) ∧ v.cell? ⟨gi, i, none⟩ = some (.int .i64 (u : Int))) ∧ Below wr.heap.size wr v) → Calls Try.prog 17 #[.int .i64 n, .slice A l.length c, .int .i64 (t : Int), .int .i64 (a : Int)] v (BoolPost v true)) := fun v h => by
            have := HQ.out (t : Int) (a : Int) v (HS.out.to ((HB2.out.trans (hBj.out.mono HB2.out.size)).trans (h.2.mono (Nat.le_trans HB2.out.size hgiw))) (Nat.le_trans (Nat.le_trans HB2.out.size hgiw) h.2.size))
            rwa [zb] at this
          have HS0 := Lib.hid S0
          clear za zb qa qt qu hckj
          obtain ⟨⟨c1, c2', c3, c4⟩, _⟩ := id S0
          go_wp2_with fail
          go_region_held3 (fun v => (v.cell? ⟨g, k, none⟩ = some (.slice (some ⟨gi, 0, none⟩) p.length ci) ∧ v.cell? ⟨gi, 0, none⟩ = some (.int .i64 (a : Int)) ∧ v.cell? ⟨gi, j, none⟩ = some (.int .i64 (t : Int)) ∧ v.cell? ⟨gi, i, none⟩ = some (.int .i64 (u : Int))) ∧ Below wr.heap.size wr v)
            (first | (exact HS0.out) | (exact KD.out _ HS0.out) | (refine KS.out _ _ hb1 ?_; first | assumption | exact KD.out _ HS0.out))
            (first | (go_at_call 17; (with_reducible refine (HR1.out _ ?_).mono ?_); (focus (first | assumption | exact HS0.out | exact KD.out _ HS0.out)); rintro e w5 ⟨rfl, hb1⟩) | (go_at_call 17; (with_reducible refine (HR2.out _ ?_).mono ?_); (focus (first | assumption | exact KS.out _ _ hb1 (KD.out _ HS0.out) | exact KS.out _ _ hb1 HS0.out)); rintro e w6 ⟨rfl, hb1⟩))
          rename_i hSx
          have HB5 := Lib.hid (hBj.out.trans (hSx.2.mono hBj.out.size))
          go_wp2
          go_roundg (p.length - (j + 1))
          case measure => omega
          case rel => exact ⟨j + 1, by omega, by omega, by go_num, HB5.out⟩
        · have hjl : decide ((j : Int) < (p.length : Int)) = false := decide_eq_false (by omega)
          go_wp2
          go_roundg (out.length - (k + 1))
          case measure => omega
          case rel => exact ⟨k + 1, by omega, by go_num, by rw [HCk.out], hBj.out⟩
    · have hke : k = out.length := by omega
      have HM : Hid ((cn out k : Int) = n) := by
        show _ = _
        rw [hke, cn_all, Hmany.out]
        exact HN.out.symm
      have hkl : decide ((k : Int) < (out.length : Int)) = false := decide_eq_false (by omega)
      clear hke
      generalize cn out k = cq at *
      go_wp2
      go_loopg [10] l.length (fun q t W => ∃ i : Nat, i + q = l.length ∧ t = .int .i64 (i : Int) ∧ Hid (Below w2.heap.size w2 W))
      case atStart => exact ⟨0, by omega, rfl, hB.out⟩
      case round =>
        obtain ⟨i, hiq, rfl, hBi⟩ := hrel
        have HBz := Lib.hid (HB2.out.trans (hBi.out.mono HB2.out.size))
        by_cases hlt2 : i < l.length
        · have hii : (i : Int) < (l.length : Int) := by omega
          have hi00 : (0 : Int) ≤ (i : Int) := by omega
          obtain ⟨b, off, rfl, hb, q0, q1⟩ := (HS.out.below HBz.out).at_ hlt2
          have HX : Hid (l[i] ∈ l) := List.getElem_mem hlt2
          generalize l[i] = r at *
          obtain ⟨x, y⟩ := r
          simp only at q0 q1
          by_cases hx0 : x < 0
          · go_wp2
            go_roundg (l.length - (i + 1))
            case measure => omega
            case rel => exact ⟨i + 1, by omega, by go_num, hBi.out⟩
          · have f0 := decide_eq_false hx0
            by_cases hx1 : n ≤ x
            · go_wp2
              go_roundg (l.length - (i + 1))
              case measure => omega
              case rel => exact ⟨i + 1, by omega, by go_num, hBi.out⟩
            · have f1 := decide_eq_false hx1
              by_cases hy0 : y < 0
              · go_wp2
                go_roundg (l.length - (i + 1))
                case measure => omega
                case rel => exact ⟨i + 1, by omega, by go_num, hBi.out⟩
              · have f2 := decide_eq_false hy0
                by_cases hy1 : n ≤ y
                · go_wp2
                  go_roundg (l.length - (i + 1))
                  case measure => omega
                  case rel => exact ⟨i + 1, by omega, by go_num, hBi.out⟩
                · have f3 := decide_eq_false hy1
                  obtain ⟨d, rfl⟩ := Int.eq_ofNat_of_zero_le (a := x) (by omega)
                  obtain ⟨t, rfl⟩ := Int.eq_ofNat_of_zero_le (a := y) (by omega)
                  have hd : d < m := by have := HN.out; omega
                  have ht : t < m := by have := HN.out; omega
                  have hE : Ed m l d t := ⟨hd, ht, HX.out⟩
                  obtain ⟨pa, hpa, hda⟩ := Ho.out.all d hd (fun f => f)
                  obtain ⟨ia, hia⟩ := List.getElem?_of_mem hpa
                  obtain ⟨ib, pb, hib, hpb, htb⟩ : ∃ (j : Nat) (q : List Nat), j ≤ ia ∧ out[j]? = some q ∧ t ∈ q := (Ho.out.ord ia pa d t hia hda hE).elim (fun f => f.elim) id
                  have hal := (List.getElem?_eq_some_iff.1 hia).1
                  obtain ⟨g, rfl⟩ := HA2.out (by omega)
                  have HPw := Lib.hid (HP.out.up hBi.out)
                  have HPa := Lib.hid (place_any g c2 bs out HO.out Ho.out (by omega) d ia pa hia hda wr HPw.out)
                  have HPb := Lib.hid (place_any g c2 bs out HO.out Ho.out (by omega) t ib pb hpb htb wr HPw.out)
                  have HNR : Hid (ia ≠ ib → rz n l (t : Int) (d : Int) = false) := fun hne => HRN.out t d fun hr => by
                    obtain ⟨kx, _, rfl⟩ := HO.out.isc pb (List.mem_of_getElem? hpb)
                    have hdb : d ∈ cmp (Ed m l) m kx := mem_cmp.2 ⟨hd, (mem_cmp.1 htb).2.1.trans hr, (Rt.one hE).trans (mem_cmp.1 htb).2.2⟩
                    exact hne (Ho.out.place hia hpb hda hdb)
                  have g1 : decide ((ia : Int) < 0) = false := decide_eq_false (by omega)
                  have g2 : decide ((ib : Int) < 0) = false := decide_eq_false (by omega)
                  have g3 : decide ((ia : Int) < (ib : Int)) = false := decide_eq_false (by omega)
                  have g3n : decide (ia < ib) = false := decide_eq_false (by omega)
                  clear hE hpa hia hpb hda htb
                  go_wp2_with fail
                  refine HPa.out.mono ?_
                  rintro e w5 ⟨rfl, rfl⟩
                  go_wp2_with fail
                  refine HPb.out.mono ?_
                  rintro e w6 ⟨rfl, rfl⟩
                  by_cases hab : ia = ib
                  · have hne : ((ia : Int) != (ib : Int)) = false := by simp [hab]
                    have hnen : (ia != ib) = false := by simp [hab]
                    clear hab
                    go_wp2_with fail
                    go_quiet (fail)
                    have HBn := Lib.hid (below_drewN hBi.out nq)
                    go_wp2
                    go_roundg (l.length - (i + 1))
                    case measure => omega
                    case rel => exact ⟨i + 1, by omega, by go_num, HBn.out⟩
                  · have hne : ((ia : Int) != (ib : Int)) = true := by simpa using (fun e : (ia : Int) = (ib : Int) => hab (by omega))
                    have hnen : (ia != ib) = true := by simpa using hab
                    have zc := HNR.out hab
                    have hbz : b < w6.heap.size := Nat.lt_of_lt_of_le hb HBz.out.size
                    have S0 : (w6.cell? ⟨b, off + i * 2, none⟩ = some (.int .i64 (d : Int)) ∧ w6.cell? ⟨b, off + i * 2 + 1, none⟩ = some (.int .i64 (t : Int))) ∧ Below w6.heap.size w6 w6 := ⟨⟨q0, q1⟩, Below.refl _ _⟩
                    have KS : Hid (∀ v v', Below v.heap.size v v' → ((v.cell? ⟨b, off + i * 2, none⟩ = some (.int .i64 (d : Int)) ∧ v.cell? ⟨b, off + i * 2 + 1, none⟩ = some (.int .i64 (t : Int))) ∧ Below w6.heap.size w6 v) → ((v'.cell? ⟨b, off + i * 2, none⟩ = some (.int .i64 (d : Int)) ∧ v'.cell? ⟨b, off + i * 2 + 1, none⟩ = some (.int .i64 (t : Int))) ∧ Below w6.heap.size w6 v')) := fun v v' hb1 h => by
                      have hz := h.2.size
                      exact ⟨⟨(hb1.cell (p := ⟨b, off + i * 2, none⟩) (show b < _ by omega)).trans h.1.1, (hb1.cell (p := ⟨b, off + i * 2 + 1, none⟩) (show b < _ by omega)).trans h.1.2⟩, h.2.trans (hb1.mono hz)⟩
                    have KD : Hid (∀ v, ((v.cell? ⟨b, off + i * 2, none⟩ = some (.int .i64 (d : Int)) ∧ v.cell? ⟨b, off + i * 2 + 1, none⟩ = some (.int .i64 (t : Int))) ∧ Below w6.heap.size w6 v) → ((v.drew.cell? ⟨b, off + i * 2, none⟩ = some (.int .i64 (d : Int)) ∧ v.drew.cell? ⟨b, off + i * 2 + 1, none⟩ = some (.int .i64 (t : Int))) ∧ Below w6.heap.size w6 v.drew)) := fun v h => KS.out v v.drew (Below.refl _ _).drew h
                    have HRc : Hid (∀ v, ((v.cell? ⟨b, off + i * 2, none⟩ = some (.int .i64 (d : Int)) ∧ v.cell? ⟨b, off + i * 2 + 1, none⟩ = some (.int .i64 (t : Int))) ∧ Below w6.heap.size w6 v) → Calls Try.prog 17 #[.int .i64 n, .slice (some ⟨b, off, none⟩) l.length c, .int .i64 (t : Int), .int .i64 (d : Int)] v (BoolPost v false)) := fun v h => by
                      have := HQ.out (t : Int) (d : Int) v (HS.out.to (HBz.out.trans (h.2.mono HBz.out.size)) (Nat.le_trans HBz.out.size h.2.size))
                      rwa [zc] at this
                    have HS0 := Lib.hid S0
                    clear zc hab
                    go_wp2_with fail
                    go_region_held3 (fun v => (v.cell? ⟨b, off + i * 2, none⟩ = some (.int .i64 (d : Int)) ∧ v.cell? ⟨b, off + i * 2 + 1, none⟩ = some (.int .i64 (t : Int))) ∧ Below w6.heap.size w6 v)
                      (first | (exact HS0.out) | (exact KD.out _ HS0.out) | (refine KS.out _ _ hb1 ?_; first | assumption | exact KD.out _ HS0.out))
                      (first | (go_at_call 17; (with_reducible refine (HRc.out _ ?_).mono ?_); (focus (first | assumption | exact HS0.out | exact KD.out _ HS0.out)); rintro e w7 ⟨rfl, hb1⟩))
                    rename_i hSx
                    have HBn := Lib.hid (hBi.out.trans (hSx.2.mono hBi.out.size))
                    go_wp2
                    go_roundg (l.length - (i + 1))
                    case measure => omega
                    case rel => exact ⟨i + 1, by omega, by go_num, HBn.out⟩
        · have hil : decide ((i : Int) < (l.length : Int)) = false := decide_eq_false (by omega)
          have e9 : ((cq : Int) == n) = true := by simp [HM.out]
          go_wp2
          go_ret
          exact ⟨rfl, HBz.out⟩

set_option maxRecDepth 100000 in
set_option maxHeartbeats 2000000 in
theorem lorder_any (n : Int) (A : Option Addr) (c : Nat) (l : List (Int × Int)) (w : World) (hs : Es w w.heap.size A l) : Calls Try.prog 5 #[.int .i64 n, .slice A l.length c] w (UpPost w) := by
  have HW := Lib.hid (awake_any w)
  by_cases h0 : n < 0
  · go_enter Try.func5, Try.ntmps5
    go_wp2_with fail
    refine HW.out.mono ?_
    rintro e w1 ⟨rfl, B1⟩
    go_wp2
    go_ret
    exact ⟨rfl, B1⟩
  · have dh0 := decide_eq_false h0
    by_cases h1 : 30 < n
    · go_enter Try.func5, Try.ntmps5
      go_wp2_with fail
      refine HW.out.mono ?_
      rintro e w1 ⟨rfl, B1⟩
      go_wp2
      go_ret
      exact ⟨rfl, B1⟩
    · have dh1 := decide_eq_false h1
      by_cases h2 : (300 : Int) < (l.length : Int)
      · go_enter Try.func5, Try.ntmps5
        go_wp2_with fail
        refine HW.out.mono ?_
        rintro e w1 ⟨rfl, B1⟩
        go_wp2
        go_ret
        exact ⟨rfl, B1⟩
      · have dh2 := decide_eq_false h2
        exact lorder_core n n.toNat (by omega) (by omega) A c l (by omega) w hs

end Go.Proofs.Ytnfjfpiijikniaa.Gp
