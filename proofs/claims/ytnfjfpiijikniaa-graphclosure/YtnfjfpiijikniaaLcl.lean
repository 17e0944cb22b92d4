/-
  The walk of the law GraphClosure. No conditions.
-/
import Derived.Test.YtnfjfpiijikniaaAw
import Derived.Deep.QuietTactic
import Derived.BigQuiet
namespace Go.Proofs.Ytnfjfpiijikniaa.Gp
open Go.RowKit
set_option linter.unusedVariables false

theorem cz_in {n : Int} {l : List (Int × Int)} {m t : Nat} (hn : am n = m) (ht : t < m) : cz n l (t : Int) = clo (Ed m l) m t := by
  subst hn
  unfold cz
  rw [if_pos (by omega)]
  rfl
theorem clo_closed {m : Nat} {l : List (Int × Int)} {a d t : Nat} (hd : d < m) (ht : t < m) (he : ((d : Int), (t : Int)) ∈ l) (h : d ∈ clo (Ed m l) m a) : t ∈ clo (Ed m l) m a :=
  mem_clo.2 ⟨ht, (mem_clo.1 h).2.step ⟨hd, ht, he⟩⟩
theorem clo_fewer {E : Nat → Nat → Prop} {m a t : Nat} (h : t ∈ clo E m a) : (clo E m t).length ≤ (clo E m a).length :=
  (rises_nodup (clo_rises E m t)).length_le_of_subset fun x hx => mem_clo.2 ⟨(mem_clo.1 hx).1, (mem_clo.1 h).2.trans (mem_clo.1 hx).2⟩

theorem sl_nat {w : World} {B : Nat} {A : Option Addr} {cs : List Nat} (h : Sl w B A (zs cs)) (hl : 0 < cs.length) : ∃ b off, A = some ⟨b, off, none⟩ ∧ b < B ∧ ∀ (j x : Nat), cs[j]? = some x → w.cell? ⟨b, off + j, none⟩ = some (.int .i64 (x : Int)) := by
  rcases h with h | ⟨b, off, hA, hb, hc⟩
  · rw [← zs_len, h] at hl; simp at hl
  · refine ⟨b, off, hA, hb, fun j x hx => hc j x ?_⟩
    unfold zs
    rw [List.getElem?_map, hx]; rfl
theorem mark_take (cs : List Nat) (k : Nat) (hk : k < cs.length) (x : Nat) : upd (fun x => decide (x ∈ cs.take k)) cs[k] x = decide (x ∈ cs.take (k + 1)) := by
  rw [List.take_succ_eq_append_getElem hk, Bool.eq_iff_iff, upd_iff, decide_eq_true_iff, decide_eq_true_iff, List.mem_append, List.mem_singleton]

set_option maxRecDepth 100000 in
set_option maxHeartbeats 4000000 in
theorem lclosure_core (n : Int) (m a : Nat) (hnm : n = (m : Int)) (hm : m ≤ 100) (ha : a < m) (A : Option Addr) (c : Nat) (l : List (Int × Int)) (hl3 : l.length ≤ 300) (w : World) (hs : Es w w.heap.size A l) : Calls Try.prog 9 #[.int .i64 n, .slice A l.length c, .int .i64 (a : Int)] w (UpPost w) := by
  subst hnm
  have ham : am (m : Int) = m := by unfold am; omega
  obtain ⟨j0, hj, hy0, hy1, hy2⟩ := info_parts info4
  have HW := Lib.hid (awake_any w)
  have HS := Lib.hid hs
  have HC : Hid (∀ t, t < m → ∀ W, Es W W.heap.size A l → Calls Try.prog 15 #[.int .i64 (m : Int), .slice A l.length c, .int .i64 (t : Int)] W (IntsPost W (zs (clo (Ed m l) m t)))) := fun t ht W h => by
    have := Closure_any (m : Int) A c l (t : Int) (by omega) W h
    rwa [cz_in ham ht] at this
  have HCa := Lib.hid (HC.out a ha)
  have Hri := Lib.hid (clo_rises (Ed m l) m a)
  have Hin : Hid (∀ t, t ∈ clo (Ed m l) m a → t < m) := fun t h => (mem_clo.1 h).1
  have Hcl : Hid (∀ d t : Nat, d < m → t < m → ((d : Int), (t : Int)) ∈ l → d ∈ clo (Ed m l) m a → t ∈ clo (Ed m l) m a) := fun d t hd ht he h => clo_closed hd ht he h
  have Hfe : Hid (∀ t, t ∈ clo (Ed m l) m a → (clo (Ed m l) m t).length ≤ (clo (Ed m l) m a).length) := fun t h => clo_fewer h
  have Haa : Hid (a ∈ clo (Ed m l) m a) := mem_clo.2 ⟨ha, .refl⟩
  have Hsm : Hid (∀ t : Nat, t = a → clo (Ed m l) m t = clo (Ed m l) m a) := fun t h => by rw [h]
  have hcl := clo_len (Ed m l) m a
  have Hle : Hid (∀ t, (clo (Ed m l) m t).length ≤ m) := fun t => clo_len (Ed m l) m t
  generalize clo (Ed m l) m a = cs at *
  have hzl : Hid ((zs cs).length = cs.length) := zs_len cs
  clear hs
  have hai : (a : Int) < (m : Int) := by omega
  have ha0 : (0 : Int) ≤ (a : Int) := by omega
  have hl300 : (l.length : Int) ≤ 300 := by omega
  have d1 : decide ((m : Int) < 0) = false := decide_eq_false (by omega)
  have d2 : decide ((100 : Int) < (m : Int)) = false := decide_eq_false (by omega)
  have d3 : decide ((300 : Int) < (l.length : Int)) = false := decide_eq_false (by omega)
  have d4 : decide ((a : Int) < 0) = false := decide_eq_false (by omega)
  have d5 : decide ((m : Int) ≤ (a : Int)) = false := decide_eq_false (by omega)
  go_enter Try.func9, Try.ntmps9
  go_wp2_with fail
  refine HW.out.mono ?_
  rintro e w1 ⟨rfl, B1⟩
  go_wp2_with fail
  refine (HCa.out w1 (HS.out.to B1 B1.size)).mono ?_
  rintro e w2 ⟨A2, c2, rfl, s2, B2⟩
  have HB2 := Lib.hid (B1.trans (B2.mono B1.size))
  have HS2 := Lib.hid s2
  rw [hzl.out]
  clear s2 B1 B2 HW HCa
  go_wp2_with (first | (at_make; refine wpList_make_full _ rfl _ _ 38 rfl w2.heap.size 4 j0 (.bool false) 1 (by kernel_rfl) hj hy0 hy1 _ _ _ _ m rfl rfl rfl rfl (by rw [hy2]; omega) (by unfold maxLen; omega) (Nat.le_refl _) ?_; intro w4 hown4 hgrow4))
  have HT4 : Hid (Br w4 w2.heap.size (fun _ => false) m) := tb_made hown4 rfl
  have HB4 : Hid (Below w2.heap.size w2 w4) := (Below.refl _ _).grown hgrow4 (Nat.le_refl _) (by simp)
  clear hown4 hgrow4
  go_loopg [10] cs.length (fun q t W => ∃ k : Nat, k + q = cs.length ∧ t = .int .i64 (k : Int) ∧ Hid (Br W w2.heap.size (fun x => decide (x ∈ cs.take k)) m) ∧ Hid (Below w2.heap.size w2 W))
  case atStart => exact ⟨0, by omega, rfl, HT4.out.congr fun x _ => by simp, HB4.out⟩
  case round =>
    obtain ⟨k, hk, rfl, hT, hB⟩ := hrel
    by_cases hlt : k < cs.length
    · have hki : (k : Int) < (cs.length : Int) := by omega
      have hk0 : (0 : Int) ≤ (k : Int) := by omega
      obtain ⟨b, off, rfl, hb, hc⟩ := sl_nat (HS2.out.below hB.out) (by omega)
      have q1 := hc k _ (List.getElem?_eq_getElem hlt)
      have htm := Hin.out cs[k] (List.getElem_mem hlt)
      have HM := Lib.hid (mark_take cs k hlt)
      have HP : Hid (∀ i (h : i < k), cs[i]'(by omega) < cs[k]) := fun i h => List.pairwise_iff_getElem.1 Hri.out i k _ _ h
      have HQ : Hid (∀ i (h : i < k), wr.cell? ⟨b, off + i, none⟩ = some (.int .i64 ((cs[i]'(by omega) : Nat) : Int))) := fun i h => hc i _ (List.getElem?_eq_getElem _)
      clear hc
      generalize cs[k] = t at *
      have hti : (t : Int) < (m : Int) := by omega
      have ht0 : (0 : Int) ≤ (t : Int) := by omega
      have e1 : decide ((t : Int) < 0) = false := decide_eq_false (by omega)
      have e2 : decide ((m : Int) ≤ (t : Int)) = false := decide_eq_false (by omega)
      have e2n : decide (m ≤ t) = false := decide_eq_false (by omega)
      have c7 := hT.out.cell htm
      have f7 := Tb.free hT.out t
      have HTn : Hid (∀ q, Br ((wr.drewN q).setCell ⟨w2.heap.size, t, none⟩ (.bool true)) w2.heap.size (fun x => decide (x ∈ cs.take (k + 1))) m) := fun q =>
        (Br.upd (w := wr.drewN q) (show Br (wr.drewN q) w2.heap.size _ m from hT.out) t).congr fun x _ => HM.out x
      have HBn : Hid (∀ q, Below w2.heap.size w2 ((wr.drewN q).setCell ⟨w2.heap.size, t, none⟩ (.bool true))) := fun q => (below_drewN hB.out q).setCell (Nat.le_refl _) _
      rcases Nat.eq_zero_or_pos k with hk1 | hk1
      · have e3 : decide ((0 : Int) < (k : Int)) = false := decide_eq_false (by omega)
        clear HQ HP
        subst hk1
        have q1 : wr.cell? ⟨b, off, none⟩ = some (.int .i64 (t : Int)) := q1
        go_wp2_with fail
        go_quiet (fail)
        go_wp2
        go_roundg (cs.length - (0 + 1))
        case measure => omega
        case rel => exact ⟨0 + 1, by omega, by go_num, HTn.out _, HBn.out _⟩
      · obtain ⟨j, hjk⟩ : ∃ j, j = k - 1 := ⟨_, rfl⟩
        have hjl : (j : Int) < (cs.length : Int) := by omega
        have hj00 : (0 : Int) ≤ (j : Int) := by omega
        have hk01 : (0 : Int) < (k : Int) := by omega
        have hkj : (k : Int) - 1 = (j : Int) := by omega
        have hjk2 : j < k := by omega
        have hjl2 : j < cs.length := by omega
        have hwr : IntKind.i64.wrap ((k : Int) - 1) = (j : Int) := by rw [IntWalk.i64_in _ (by omega)]; omega
        have q2 := HQ.out j hjk2
        have q3 := HP.out j hjk2
        generalize cs[j] = u at *
        have e4 : decide ((t : Int) ≤ (u : Int)) = false := decide_eq_false (by omega)
        have e4n : decide (t ≤ u) = false := decide_eq_false (by omega)
        clear HQ HP hjk
        go_wp2_with fail
        go_quiet (fail)
        go_wp2
        go_roundg (cs.length - (k + 1))
        case measure => omega
        case rel => exact ⟨k + 1, by omega, by go_num, HTn.out _, HBn.out _⟩
    · obtain rfl : cs.length = k := by omega
      have hT2 : Hid (Br wr w2.heap.size (fun x => decide (x ∈ cs)) m) := hT.out.congr fun x _ => by rw [List.take_length]
      have HBz := Lib.hid (HB2.out.trans (hB.out.mono HB2.out.size))
      obtain ⟨U, hU⟩ : ∃ U, U = wr := ⟨_, rfl⟩
      subst hU
      go_wp2
      go_loopg [11] l.length (fun q t W => ∃ k : Nat, k + q = l.length ∧ t = .int .i64 (k : Int) ∧ U = W)
      case atStart => exact ⟨0, by omega, rfl, rfl⟩
      case round =>
        obtain ⟨k, hk, rfl, hW⟩ := hrel
        subst hW
        by_cases hlt : k < l.length
        · have hki : (k : Int) < (l.length : Int) := by omega
          have hk0 : (0 : Int) ≤ (k : Int) := by omega
          obtain ⟨b, off, rfl, hb, q0, q1⟩ := (HS.out.below HBz.out).at_ hlt
          have HX : Hid (l[k] ∈ l) := List.getElem_mem hlt
          generalize l[k] = r at *
          obtain ⟨x, y⟩ := r
          simp only at q0 q1
          by_cases hx0 : 0 ≤ x
          · by_cases hx1 : x < (m : Int)
            · by_cases hy0' : 0 ≤ y
              · by_cases hy1' : y < (m : Int)
                · obtain ⟨d, rfl⟩ := Int.eq_ofNat_of_zero_le hx0
                  obtain ⟨t, rfl⟩ := Int.eq_ofNat_of_zero_le hy0'
                  have hd : d < m := by omega
                  have ht : t < m := by omega
                  have cd := hT2.out.cell hd
                  have ct := hT2.out.cell ht
                  have HK : Hid (decide (d ∈ cs) = true → decide (t ∈ cs) = true) := fun h => decide_eq_true (Hcl.out d t hd ht HX.out (of_decide_eq_true h))
                  generalize decide (d ∈ cs) = g1 at *
                  generalize decide (t ∈ cs) = g2 at *
                  cases g1
                  · go_wp2
                    go_roundg (l.length - (k + 1))
                    case measure => omega
                    case rel => exact ⟨k + 1, by omega, by go_num, rfl⟩
                  · obtain rfl := HK.out rfl
                    go_wp2
                    go_roundg (l.length - (k + 1))
                    case measure => omega
                    case rel => exact ⟨k + 1, by omega, by go_num, rfl⟩
                · have e1 := decide_eq_false hy1'
                  go_wp2
                  go_roundg (l.length - (k + 1))
                  case measure => omega
                  case rel => exact ⟨k + 1, by omega, by go_num, rfl⟩
              · have e1 := decide_eq_false hy0'
                go_wp2
                go_roundg (l.length - (k + 1))
                case measure => omega
                case rel => exact ⟨k + 1, by omega, by go_num, rfl⟩
            · have e1 := decide_eq_false hx1
              go_wp2
              go_roundg (l.length - (k + 1))
              case measure => omega
              case rel => exact ⟨k + 1, by omega, by go_num, rfl⟩
          · have e1 := decide_eq_false hx0
            go_wp2
            go_roundg (l.length - (k + 1))
            case measure => omega
            case rel => exact ⟨k + 1, by omega, by go_num, rfl⟩
        · obtain rfl : l.length = k := by omega
          go_wp2
          go_loopg [14] cs.length (fun q t W => ∃ k : Nat, k + q = cs.length ∧ t = .int .i64 (k : Int) ∧ Hid (Below U.heap.size U W))
          case atStart => exact ⟨0, by omega, rfl, Below.refl _ _⟩
          case round =>
            obtain ⟨k, hk, rfl, hBU⟩ := hrel
            have hBz := Lib.hid (HBz.out.trans (hBU.out.mono HBz.out.size))
            by_cases hlt : k < cs.length
            · have hki : (k : Int) < (cs.length : Int) := by omega
              have hk0 : (0 : Int) ≤ (k : Int) := by omega
              have HL2 := Lib.hid (HS2.out.below (hB.out.trans (hBU.out.mono hB.out.size)))
              obtain ⟨b, off, rfl, hb, hc⟩ := sl_nat HL2.out (by omega)
              have q1 := hc k _ (List.getElem?_eq_getElem hlt)
              have HQ0 : Hid (w2.cell? ⟨b, off + k, none⟩ = some (.int .i64 ((cs[k] : Nat) : Int))) := by
                obtain ⟨b', off', e, _, hc'⟩ := sl_nat HS2.out (by omega)
                simp only [Option.some.injEq, Addr.mk.injEq, and_true] at e
                obtain ⟨rfl, rfl⟩ := e
                exact hc' k _ (List.getElem?_eq_getElem hlt)
              have htc : cs[k] ∈ cs := List.getElem_mem hlt
              have htm := Hin.out cs[k] htc
              have HCt := Lib.hid (HC.out cs[k] htm wr (HS.out.to hBz.out hBz.out.size))
              have hfe := Hfe.out cs[k] htc
              have hfl := Hle.out cs[k]
              have HE := Lib.hid (Hsm.out cs[k])
              clear hc htc
              generalize cs[k] = t at *
              generalize clo (Ed m l) m t = ds at *
              obtain ⟨r, hr⟩ : ∃ r, r = decide (zs cs = zs ds) := ⟨_, rfl⟩
              have HSm : Hid (∀ A3 c3 W, Sl W W.heap.size (some ⟨b, off, none⟩) (zs cs) → Sl W W.heap.size A3 (zs ds) → Calls Try.prog 14 #[.slice (some ⟨b, off, none⟩) cs.length c2, .slice A3 ds.length c3] W (BoolPost W r)) := fun A3 c3 W h h' => by
                have := same1_any (some ⟨b, off, none⟩) A3 c2 c3 (zs cs) (zs ds) r hr (by rw [zs_len]; omega) W h h'
                rwa [zs_len, zs_len] at this
              have HRt : Hid (t = a → r = true) := fun e => by rw [hr, HE.out e]; simp
              have e5 : decide ((cs.length : Int) < (ds.length : Int)) = false := decide_eq_false (by omega)
              clear hr HE
              go_wp2_with fail
              refine HCt.out.mono ?_
              rintro e w5 ⟨A3, c3, rfl, s3, B5⟩
              rw [zs_len]
              have HSm2 := Lib.hid (HSm.out A3 c3 w5 ((HL2.out.below (B5.mono (by have := hB.out.size; have := hBU.out.size; omega))).mono (by have := hB.out.size; have := hBU.out.size; have := B5.size; omega)) s3)
              clear s3 HSm q1
              go_wp2_with fail
              refine HSm2.out.mono ?_
              rintro e w6 ⟨rfl, B6⟩
              have HB6 := Lib.hid (hBU.out.trans ((B5.trans (B6.mono B5.size)).mono hBU.out.size))
              have q2 : w6.cell? ⟨b, off + k, none⟩ = some (.int .i64 (t : Int)) := ((hB.out.trans ((hBU.out.trans ((B5.trans (B6.mono B5.size)).mono hBU.out.size)).mono hB.out.size)).cell (p := ⟨b, off + k, none⟩) hb).trans HQ0.out
              clear B5 B6
              by_cases he : t = a
              · obtain rfl := HRt.out he
                have e6 : ((t : Int) == (a : Int)) = true := by simp [he]
                clear he HRt
                go_wp2
                go_roundg (cs.length - (k + 1))
                case measure => omega
                case rel => exact ⟨k + 1, by omega, by go_num, HB6.out⟩
              · have e6 : ((t : Int) == (a : Int)) = false := by simpa using (fun e : (t : Int) = (a : Int) => he (by omega))
                clear he HRt
                go_wp2
                go_roundg (cs.length - (k + 1))
                case measure => omega
                case rel => exact ⟨k + 1, by omega, by go_num, HB6.out⟩
            · obtain rfl : cs.length = k := by omega
              have cf : wr.cell? ⟨w2.heap.size, a, none⟩ = some (.bool true) := by
                have := (Tb.on hT2.out hBU.out (Tb.lt hT2.out) : Br wr w2.heap.size (fun x => decide (x ∈ cs)) m).cell ha
                rw [show ((fun x => decide (x ∈ cs)) a) = true from decide_eq_true Haa.out] at this
                exact this
              go_wp2
              go_ret
              exact ⟨rfl, hBz.out⟩

set_option maxRecDepth 100000 in
set_option maxHeartbeats 2000000 in
theorem lclosure_any (n : Int) (A : Option Addr) (c : Nat) (l : List (Int × Int)) (f : Int) (w : World) (hs : Es w w.heap.size A l) : Calls Try.prog 9 #[.int .i64 n, .slice A l.length c, .int .i64 f] w (UpPost w) := by
  have HW := Lib.hid (awake_any w)
  by_cases h0 : n < 0
  · go_enter Try.func9, Try.ntmps9
    go_wp2_with fail
    refine HW.out.mono ?_
    rintro e w1 ⟨rfl, B1⟩
    go_wp2
    go_ret
    exact ⟨rfl, B1⟩
  · have dh0 := decide_eq_false h0
    by_cases h1 : 100 < n
    · go_enter Try.func9, Try.ntmps9
      go_wp2_with fail
      refine HW.out.mono ?_
      rintro e w1 ⟨rfl, B1⟩
      go_wp2
      go_ret
      exact ⟨rfl, B1⟩
    · have dh1 := decide_eq_false h1
      by_cases h2 : (300 : Int) < (l.length : Int)
      · go_enter Try.func9, Try.ntmps9
        go_wp2_with fail
        refine HW.out.mono ?_
        rintro e w1 ⟨rfl, B1⟩
        go_wp2
        go_ret
        exact ⟨rfl, B1⟩
      · have dh2 := decide_eq_false h2
        by_cases h3 : f < 0
        · go_enter Try.func9, Try.ntmps9
          go_wp2_with fail
          refine HW.out.mono ?_
          rintro e w1 ⟨rfl, B1⟩
          go_wp2
          go_ret
          exact ⟨rfl, B1⟩
        · have dh3 := decide_eq_false h3
          by_cases h4 : n ≤ f
          · go_enter Try.func9, Try.ntmps9
            go_wp2_with fail
            refine HW.out.mono ?_
            rintro e w1 ⟨rfl, B1⟩
            go_wp2
            go_ret
            exact ⟨rfl, B1⟩
          · have dh4 := decide_eq_false h4
            obtain ⟨a, rfl⟩ := Int.eq_ofNat_of_zero_le (a := f) (by omega)
            exact lclosure_core n n.toNat a (by omega) (by omega) (by omega) A c l (by omega) w hs

end Go.Proofs.Ytnfjfpiijikniaa.Gp
