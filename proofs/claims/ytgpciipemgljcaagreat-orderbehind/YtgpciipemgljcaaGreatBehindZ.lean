/-
  OrderBehind, for every input: what waits for another one, which does not wait for it, is done behind it: the law answers true, and its arguments read as they did. No conditions.
-/
import Derived.Test.YtgpciipemgljcaaGreatGam
import Derived.Test.YtgpciipemgljcaaGreatGah
import Derived.Test.YtgpciipemgljcaaGreatGae
/-
  The walk of the law OrderWaits. No conditions but what can be read.
-/
namespace Go.Proofs.YtgpciipemgljcaaGreat.Od
open Go.RowKit
set_option linter.unusedVariables false
attribute [local go_sem ↓ high] eq25 guard25 neq25 guard25n

theorem elem_size23 (W : World) : (sizeOf (Tryz.prog.elem 23)).run Tryz.prog W = .ok 2 W := by
  obtain ⟨i0, hi, hz0, hz1, hz2⟩ := info_parts info25
  have e : Tryz.prog.elem 23 = 25 := by kernel_rfl
  rw [e]
  simp [sizeOf, typeInfo, hi, hz1]
theorem Il.drop {w : World} {B b off : Nat} {l : List Is} (h : Il w B (some ⟨b, off, none⟩) l) (n : Nat) : Il w B (some ⟨b, off + n * 2, none⟩) (l.drop n) := by
  rcases h with rfl | ⟨b', off', hA, hb, hc⟩
  · exact .inl (by simp)
  · simp only [Option.some.injEq, Addr.mk.injEq, and_true] at hA
    obtain ⟨rfl, rfl⟩ := hA
    refine .inr ⟨b, _, rfl, hb, fun j x hx => ?_⟩
    rw [List.getElem?_drop] at hx
    have := hc _ _ hx
    rw [show off + n * 2 + j * 2 = off + (n + j) * 2 by omega]
    exact this
/-- 's[k:]' of instances. -/
theorem tail_runI {w : World} {B : Nat} {A : Option Addr} {l : List Is} (h : Il w B A l) (c k : Nat) (hk : k ≤ l.length) (hc : l.length ≤ c) :
    ∃ A', (∀ W, (Instr.sliceAt 23 (.slice A l.length c) (some (.int .i64 (k : Int))) none none).run Tryz.prog W = .ok (.slice A' (l.drop k).length (c - k)) W) ∧
      (∀ W, (Instr.slice 23 (.slice A l.length c) (some (.int .i64 (k : Int))) none none).run Tryz.prog W = .ok (.slice A' (l.drop k).length (c - k)) W) ∧ Il w B A' (l.drop k) := by
  have eu : Tryz.prog.underlying 23 = some (.slice (Tryz.prog.elem 23)) := by kernel_rfl
  have h2 : ∀ W, (Instr.slice 23 (.slice A l.length c) (some (.int .i64 (k : Int))) none none).run Tryz.prog W = .ok (.slice (if c = k then A else A.map (·.add (k * 2))) (l.drop k).length (c - k)) W := fun W => by
    rw [run_slice_l W 23 A l.length c eu .i64 k (by omega) (by omega), elem_size23]
    simp [sliced]
  refine ⟨if c = k then A else A.map (·.add (k * 2)), fun W => by rw [run_sliceAt_slice W 23 _ _ _ _ eu]; exact h2 W, h2, ?_⟩
  by_cases e : c = k
  · have : l.drop k = [] := List.drop_eq_nil_of_le (by omega)
    rw [this]; exact .nil
  · rw [if_neg e]
    rcases A with _ | ⟨b, off, sp⟩
    · rcases h with rfl | ⟨_, _, h0, _⟩
      · simp; exact .nil
      · cases h0
    · rcases h with rfl | ⟨b', off', hA, hb, hcc⟩
      · simp; exact .nil
      · simp only [Option.some.injEq, Addr.mk.injEq] at hA
        obtain ⟨rfl, rfl, rfl⟩ := hA
        have : Il w B (some ⟨b, off, none⟩) l := .inr ⟨b, off, rfl, hb, hcc⟩
        simp only [Option.map_some, Addr.add_lit]
        exact this.drop k
theorem place_in (A : Option Addr) (c : Nat) (l : List Is) (i : Is) (hi : i ∈ l) (hl : l.length ≤ 1000) (w : World) (hs : Il w w.heap.size A l) :
    Calls Tryz.prog 18 #[.slice A l.length c, iv i] w (fun e w' => ∃ z : Nat, e = .returned (.int .i64 (z : Int)) ∧ Below w.heap.size w w') := (place_any A c l i hl w hs).mono (by
  rintro e w' ⟨z, rfl, hz, hb⟩
  rcases hz with ⟨_, h⟩ | ⟨k, rfl, _, _⟩
  · exact absurd hi h
  · exact ⟨k, rfl, hb⟩)
theorem place_out (A : Option Addr) (c : Nat) (l : List Is) (i : Is) (hi : i ∉ l) (hl : l.length ≤ 1000) (w : World) (hs : Il w w.heap.size A l) :
    Calls Tryz.prog 18 #[.slice A l.length c, iv i] w (fun e w' => e = .returned (.int .i64 (-1)) ∧ Below w.heap.size w w') := (place_any A c l i hl w hs).mono (by
  rintro e w' ⟨z, rfl, hz, hb⟩
  rcases hz with ⟨rfl, _⟩ | ⟨k, rfl, h, _⟩
  · exact ⟨rfl, hb⟩
  · exact absurd (List.mem_of_getElem? h) hi)
set_option maxRecDepth 100000 in
set_option maxHeartbeats 4000000 in
theorem lwaits_core (A : Option Addr) (c : Nat) (l : List No) (hl : l.length ≤ 30) (h7 : F7 l) (hc : l.length ≤ c) (Ad : Option Addr) (cd : Nat) (D : List Is) (hD : D.length ≤ 100) (hf : Wf l) (hW : Wd D) (w : World) (hs : Nl w w.heap.size A l) (hd : Dl w w.heap.size l) (hi : Il w w.heap.size Ad D) :
    Calls Tryz.prog 4 #[.slice A l.length c, .slice Ad D.length cd] w (UpPost w) := by
  have HAw := Lib.hid (awake_any w)
  have HFw := fun W h => Lib.hid (Few_any A c l W h)
  have hfw : fw l = true := fw_iff.2 ⟨hl, h7⟩
  rw [hfw] at HFw
  have d2 : decide ((100 : Int) < (D.length : Int)) = false := decide_eq_false (by omega)
  have HRl : ∀ W, Below w.heap.size w W → Hid (Calls Tryz.prog 12 #[.slice A l.length c, .slice Ad D.length cd] W (RdPost W (rd (cs l D) D))) := fun W hB =>
    Ready_any A c l (by omega) hc Ad cd D (by omega) hf hW h7 (Nat.le_trans (cs_len l D) hl) W (hs.to hB hB.size) (hd.to hB hB.size) (hi.to hB hB.size)
  have HMl : ∀ W, Below w.heap.size w W → Hid (Calls Tryz.prog 14 #[.slice A l.length c, .slice Ad D.length cd] W (IsPost W (ms (cs l D) D))) := fun W hB =>
    Missing_any A c l (by omega) hc Ad cd D (by omega) hf hW h7 (Nat.le_trans (cs_len l D) (by omega)) W (hs.to hB hB.size) (hd.to hB hB.size) (hi.to hB hB.size)
  have HS := Lib.hid hs
  have HDl0 := Lib.hid hd
  have HDn0 := Lib.hid hi
  have HWf := Lib.hid hf
  have H7 := Lib.hid h7
  clear hs hd hi hf hW h7 hfw
  go_enter Tryz.func4, Tryz.ntmps4
  go_wp2_with fail
  refine HAw.out.mono ?_
  rintro e w1 ⟨rfl, B1⟩
  have HFw1 := HFw w1 (HS.out.to B1 B1.size)
  go_wp2_with fail
  refine HFw1.out.mono ?_
  rintro e w2 ⟨rfl, rfl⟩
  have HRl1 := HRl w2 B1
  clear HAw HFw HFw1 HRl
  go_wp2_with fail
  refine HRl1.out.mono ?_
  rintro e w3 ⟨v3, o, rfl, hr3, ho3, b3⟩
  obtain ⟨A3, c3, rfl, hI3, -⟩ := own_il ho3
  have hc3 := own_cap ho3
  have B3 := B1.trans (b3.mono B1.size)
  have HMl1 := HMl w3 B3
  have HOrs := Lib.hid (hr3.ors (rd_ri l D))
  have hol : o.length ≤ 900 := hr3.len (Nat.le_trans (rdk_len _ _ _) (Nat.le_trans (cs_len l D) hl))
  have HI3 := Lib.hid hI3
  clear HRl1 hr3 ho3 hI3 HMl b3
  go_wp2_with fail
  refine HMl1.out.mono ?_
  rintro e w4 ⟨v4, rfl, ho4, b4⟩
  obtain ⟨A4, c4, rfl, hI4, -⟩ := own_il ho4
  have hml := ms_len (cs l D) D
  have HB4 := Lib.hid (B3.trans (b4.mono B3.size))
  have HO := Lib.hid (HI3.out.to b4 b4.size)
  have HM := Lib.hid hI4
  have HNl := Lib.hid (HS.out.to HB4.out HB4.out.size)
  have HDl := Lib.hid (HDl0.out.to HB4.out HB4.out.size)
  have HDn := Lib.hid (HDn0.out.to HB4.out HB4.out.size)
  have HLaw := Lib.hid (fun (hdi : Di l) (n : No) (hn : n ∈ l) (hon : n.i ∈ o) => waits_law H7.out hdi HOrs.out hn hon)
  have HMb := Lib.hid (fun m (hm : m ∈ ms (cs l D) D) => mem_ax.1 (mem_ms.1 hm).1)
  generalize ms (cs l D) D = mm at *
  clear HMl1 ho4 hI4 b4 B3 B1 HI3 HS HDl0 HDn0
  go_wp2
  go_loopg [9] l.length (fun q t W => ∃ k : Nat, k + q = l.length ∧ t = .int .i64 (k : Int) ∧ Hid (Dk l k) ∧ Hid (Below w4.heap.size w4 W))
  case atStart => exact ⟨0, by omega, rfl, Dk.zero l, Below.refl _ _⟩
  case round =>
    obtain ⟨k, hk, rfl, hDk, hB⟩ := hrel
    by_cases hlt : k < l.length
    · have hki : (k : Int) < (l.length : Int) := by omega
      have hk0 : (0 : Int) ≤ (k : Int) := by omega
      have HX := Lib.hid (List.getElem?_eq_getElem hlt)
      generalize l[k] = x at *
      go_wp2
      go_loopg [10] k (fun q t W => ∃ j : Nat, j + q = k ∧ t = .int .i64 (j : Int) ∧ Hid (Below w4.heap.size w4 W) ∧ Hid (∀ b y, b < j → l[b]? = some y → x.i ≠ y.i))
      case atStart => exact ⟨0, by omega, rfl, hB.out, fun b y h => by omega⟩
      case round =>
        clear hB
        obtain ⟨j, hj, rfl, hB, hne⟩ := hrel
        by_cases hjt : j < k
        · have hji : (j : Int) < (k : Int) := by omega
          have hjl : (j : Int) < (l.length : Int) := by omega
          have hj0 : (0 : Int) ≤ (j : Int) := by omega
          have HY := Lib.hid (List.getElem?_eq_getElem (show j < l.length by omega))
          have hNw := HNl.out.to hB.out hB.out.size
          obtain ⟨b, off, rfl, hb, p0, p1, p2, p3⟩ := hNw.at_ HX.out
          obtain ⟨b2, off2, e2, hb2, q0, q1, q2, q3⟩ := hNw.at_ HY.out
          cases e2
          generalize l[j] = y at *
          clear p2 p3 q2 q3
          by_cases he : (x.b, x.s) = (y.b, y.s)
          · have hq := same_yes he
            have HBX := Lib.hid (HB4.out.trans (hB.out.mono HB4.out.size))
            clear he
            go_wp2_with fail
            go_quiet (fail)
            go_wp2
            go_ret
            exact ⟨rfl, Gp.below_drewN HBX.out _⟩
          · have hq := same_no he
            have HN2 : Hid (∀ b y, b < j + 1 → l[b]? = some y → x.i ≠ y.i) := fun b z hb hz => by
              rcases Nat.lt_or_ge b j with h | h
              · exact hne.out b z h hz
              · obtain rfl : b = j := by omega
                rw [HY.out] at hz
                cases hz
                exact he
            clear he
            go_wp2_with fail
            go_quiet (fail)
            go_wp2
            go_roundg (k - (j + 1))
            case measure => omega
            case rel => exact ⟨j + 1, by omega, by go_num, Gp.below_drewN hB.out _, HN2.out⟩
        · obtain rfl : j = k := by omega
          have HDk2 := Lib.hid (hDk.out.succ HX.out hne.out)
          go_wp2
          go_roundg (l.length - (j + 1))
          case measure => omega
          case rel => exact ⟨j + 1, by omega, by go_num, HDk2.out, hB.out⟩
    · obtain rfl : l.length = k := by omega
      have HL2 := Lib.hid (HLaw.out hDk.out.di)
      clear HLaw hDk
      go_wp2
      go_loopg [11] l.length (fun q t W => ∃ k : Nat, k + q = l.length ∧ t = .int .i64 (k : Int) ∧ Hid (Below w4.heap.size w4 W))
      case atStart => exact ⟨0, by omega, rfl, hB.out⟩
      case round =>
        clear hB hk hlt
        obtain ⟨k, hk, rfl, hB⟩ := hrel
        by_cases hlt : k < l.length
        · have hki : (k : Int) < (l.length : Int) := by omega
          have hk0 : (0 : Int) ≤ (k : Int) := by omega
          have HX := Lib.hid (List.getElem?_eq_getElem hlt)
          have HMx := Lib.hid (List.getElem_mem hlt)
          have hNw := HNl.out.to hB.out hB.out.size
          obtain ⟨b, off, rfl, hb, p0, p1, p2, p3⟩ := hNw.at_ HX.out
          generalize l[k] = x at *
          have HPl := Lib.hid (place_any A3 c3 o x.i (by omega) wr (HO.out.to hB.out hB.out.size))
          have HLx := Lib.hid (HL2.out x HMx.out)
          have HDx := Lib.hid (HDl.out x HMx.out)
          have HHas : ∀ V, Below w4.heap.size w4 V → x.i ∉ D → Hid (Calls Tryz.prog 19 #[.slice Ad D.length cd, iv x.i] V (BoolPost V false)) := fun V hV hn => has_any Ad cd D x.i false (by simp [hn]) (by omega) V (HDn.out.to hV hV.size)
          obtain ⟨xb, xs, xq, xd, xh, xc⟩ := x
          simp only [No.i, iv] at *
          clear hNw hki
          have hki : (k : Int) < (l.length : Int) := by omega
          go_wp2_with fail
          refine HPl.out.mono ?_
          rintro e w5 ⟨z, rfl, hz, b5⟩
          have HB5 := Lib.hid (hB.out.trans (b5.mono hB.out.size))
          rcases hz with ⟨rfl, -⟩ | ⟨z', rfl, hoz, -⟩
          · go_wp2
            go_roundg (l.length - (k + 1))
            case measure => omega
            case rel => exact ⟨k + 1, by omega, by go_num, HB5.out⟩
          · have hfacts := HLx.out (List.mem_of_getElem? hoz)
            obtain ⟨hfr, hfD, hfm, hfk⟩ := hfacts
            have hz0 : decide ((z' : Int) < 0) = false := decide_eq_false (by omega)
            have hzl := (List.getElem?_eq_some_iff.1 hoz).1
            obtain ⟨zz, hzz⟩ : ∃ zz, zz = z' + 1 := ⟨_, rfl⟩
            have hw : IntKind.i64.wrap ((z' : Int) + 1) = (zz : Int) := by rw [IntWalk.i64_in _ (by omega)]; omega
            have hzz0 : (0 : Int) ≤ (zz : Int) := by omega
            have HHas5 := HHas w5 HB5.out hfD
            have Hfm := Lib.hid hfm
            have Hfk := Lib.hid hfk
            have hNw5 := HNl.out.to HB5.out HB5.out.size
            obtain ⟨b', off', e', hb', p0, p1, p2, p3⟩ := hNw5.at_ HX.out
            cases e'
            have Hoz := Lib.hid hoz
            clear hfm hfk hfr hfD HHas HLx HPl b5 hB hoz hNw5
            go_wp2_with fail
            refine HHas5.out.mono ?_
            rintro e w6 ⟨rfl, b6⟩
            have HB6 := Lib.hid (HB5.out.trans (b6.mono HB5.out.size))
            have hNw6 := HNl.out.to HB6.out HB6.out.size
            obtain ⟨b', off', e', hbl, p0, p1, p2, p3⟩ := hNw6.at_ HX.out
            cases e'
            obtain ⟨Ax, ht1, ht2, hIt⟩ := tail_runI (HO.out.to HB6.out HB6.out.size) c3 zz (by omega) hc3
            have Hnt : Hid ((xb, xs) ∉ o.drop zz) := fun hm => by
              obtain ⟨i, hi⟩ := List.getElem?_of_mem hm
              rw [List.getElem?_drop] at hi
              have := HOrs.out.one _ _ _ hi Hoz.out
              omega
            have HIt := Lib.hid hIt
            have HP2 : ∀ V, Below w6.heap.size w6 V → Hid (Calls Tryz.prog 18 #[.slice Ax (o.drop zz).length (c3 - zz), .agg #[.int .i64 xb, .int .i64 xs]] V (fun e w' => e = .returned (.int .i64 (-1)) ∧ Below V.heap.size V w')) := fun V hV => (place_any Ax _ (o.drop zz) (xb, xs) (by simp; omega) V (HIt.out.to hV hV.size)).mono (by
              rintro e w' ⟨z, rfl, hz, hb⟩
              rcases hz with ⟨rfl, _⟩ | ⟨k', _, hk', _⟩
              · exact ⟨rfl, hb⟩
              · exact absurd (List.mem_of_getElem? hk') Hnt.out)
            have hzd : decide ((z' : Int) + 1 < 0) = false := decide_eq_false (by omega)
            have SB : Hid (∀ v, Below w6.heap.size w6 v → v.cell? ⟨b, off + k * 4, none⟩ = some (.int .i64 xb) ∧ v.cell? ⟨b, off + k * 4 + 1, none⟩ = some (.int .i64 xs)) := Lib.hid (fun v g => ⟨(World.cell?_of_block (g.block _ hbl)).trans p0, (World.cell?_of_block (g.block _ hbl)).trans p1⟩)
            have BD : Hid (Below w6.heap.size w6 w6.drew) := (Below.refl _ _).drew
            clear HHas5 b6 HB5 hIt hNw6 hzz p0 p1 p2 p3 hzd
            generalize (o.drop zz).length = dl at *
            go_wp2_with fail
            refine wp_region_held_drew (S := fun v => Below w6.heap.size w6 v) (by kernel_rfl) BD.out (fun hH => ?_)
            refine wpAnyH_take (i := 0) (v := ?v1) rfl (by kernel_rfl) (by kernel_rfl) (by kernel_rfl) (fun _ _ _ h => h) (Or.inl ⟨by rfl, ?hy1⟩) hH ?rest1
            case hy1 => (intro w hSw; (try dsimp only at hSw); go_simp; try with_reducible rfl)
            try simp only [Act.put, List.setIfInBounds_toArray, List.set_cons_zero, List.set_cons_succ, List.getElem_toArray, List.getElem_cons_zero]
            refine wpAnyH_take (i := 1) (v := ?v2) rfl (by kernel_rfl) (by kernel_rfl) (by kernel_rfl) (fun _ _ _ h => h) (Or.inl ⟨by rfl, ?hy2⟩) hH ?rest2
            case hy2 => (intro w hSw; (try dsimp only at hSw); go_simp; try with_reducible rfl)
            try simp only [Act.put, List.setIfInBounds_toArray, List.set_cons_zero, List.set_cons_succ, List.getElem_toArray, List.getElem_cons_zero, List.getElem_cons_succ]
            refine wpAnyH_take (i := 2) (v := ?v3) rfl (by kernel_rfl) (by kernel_rfl) (by kernel_rfl) (fun _ _ _ h => h) (Or.inl ⟨by rfl, ?hy3⟩) hH ?rest3
            case hy3 => (intro w hSw; (try dsimp only at hSw); go_simp; try with_reducible rfl)
            try simp only [Act.put, List.setIfInBounds_toArray, List.set_cons_zero, List.set_cons_succ, List.getElem_toArray, List.getElem_cons_zero, List.getElem_cons_succ]
            refine wpAnyH_take (i := 3) (v := ?v4) rfl (by kernel_rfl) (by kernel_rfl) (by kernel_rfl) (fun _ _ _ h => h) (Or.inl ⟨by rfl, ?hy4⟩) hH ?rest4
            case hy4 => (intro w hSw; (try dsimp only at hSw); go_simp; try with_reducible rfl)
            try simp only [Act.put, List.setIfInBounds_toArray, List.set_cons_zero, List.set_cons_succ, List.getElem_toArray, List.getElem_cons_zero, List.getElem_cons_succ]
            refine wpAnyH_take (i := 6) (v := ?v5) rfl (by kernel_rfl) (by kernel_rfl) (by kernel_rfl) (fun _ _ _ h => h) (Or.inl ⟨by rfl, ?hy5⟩) hH ?rest5
            case hy5 => (intro w hSw; (try dsimp only at hSw); go_simp; try with_reducible rfl)
            try simp only [Act.put, List.setIfInBounds_toArray, List.set_cons_zero, List.set_cons_succ, List.getElem_toArray, List.getElem_cons_zero, List.getElem_cons_succ]
            refine wpAnyH_take (i := 7) (v := ?v6) rfl (by kernel_rfl) (by kernel_rfl) (by kernel_rfl) (fun _ _ _ h => h) (Or.inl ⟨by rfl, ?hy6⟩) hH ?rest6
            case hy6 => (intro w hSw; (try dsimp only at hSw); go_simp; try with_reducible rfl)
            try simp only [Act.put, List.setIfInBounds_toArray, List.set_cons_zero, List.set_cons_succ, List.getElem_toArray, List.getElem_cons_zero, List.getElem_cons_succ]
            refine wpAnyH_take (i := 4) (v := ?v7) rfl (by kernel_rfl) (by kernel_rfl) (by kernel_rfl) (fun _ _ _ h => h) (Or.inl ⟨by rfl, ?hy7⟩) hH ?rest7
            case hy7 => (intro w hSw; (try dsimp only at hSw); go_simp; try with_reducible rfl)
            try simp only [Act.put, List.setIfInBounds_toArray, List.set_cons_zero, List.set_cons_succ, List.getElem_toArray, List.getElem_cons_zero, List.getElem_cons_succ]
            refine wpAnyH_take (i := 8) (v := ?v8) rfl (by kernel_rfl) (by kernel_rfl) (by kernel_rfl) (fun _ _ _ h => h) (Or.inl ⟨by rfl, ?hy8⟩) hH ?rest8
            case hy8 => (intro w hSw; (try dsimp only at hSw); go_simp; try with_reducible rfl)
            try simp only [Act.put, List.setIfInBounds_toArray, List.set_cons_zero, List.set_cons_succ, List.getElem_toArray, List.getElem_cons_zero, List.getElem_cons_succ]
            refine wpAnyH_take (i := 5) (v := ?v9) rfl (by kernel_rfl) (by kernel_rfl) (by kernel_rfl) (fun _ _ _ h => h) (Or.inl ⟨by rfl, ?hy9⟩) hH ?rest9
            case hy9 => (intro w hSw; (try dsimp only at hSw); go_simp; try with_reducible rfl)
            try simp only [Act.put, List.setIfInBounds_toArray, List.set_cons_zero, List.set_cons_succ, List.getElem_toArray, List.getElem_cons_zero, List.getElem_cons_succ]
            refine wpAnyH_take (i := 9) (v := ?v10) rfl (by kernel_rfl) (by kernel_rfl) (by kernel_rfl) (fun _ _ _ h => h) (Or.inl ⟨by rfl, ?hy10⟩) hH ?rest10
            case hy10 => (intro w hSw; (try dsimp only at hSw); go_simp; try with_reducible rfl)
            try simp only [Act.put, List.setIfInBounds_toArray, List.set_cons_zero, List.set_cons_succ, List.getElem_toArray, List.getElem_cons_zero, List.getElem_cons_succ]
            refine wpAnyH_take (i := 10) (v := ?v11) rfl (by kernel_rfl) (by kernel_rfl) (by kernel_rfl) (fun _ _ _ h => h) (Or.inl ⟨by rfl, ?hy11⟩) hH ?rest11
            case hy11 => (intro w hSw; (try dsimp only at hSw); obtain ⟨f0, f1⟩ := SB.out w hSw; go_simp; try with_reducible rfl)
            try simp only [Act.put, List.setIfInBounds_toArray, List.set_cons_zero, List.set_cons_succ, List.getElem_toArray, List.getElem_cons_zero, List.getElem_cons_succ]
            refine wpAnyH_ready (rs := [11]) (by kernel_rfl) (by simp) ?_
            refine AllReadyH.cons rfl (fun K hK => ?_) AllReadyH.nil
            go_simp
            go_at_call 18
            with_reducible refine (HP2 _ hH).out.mono ?_
            rintro e wq12 ⟨rfl, bq12⟩
            go_wp2_with fail
            refine hK.out _ _ (hH.trans (bq12.mono hH.size)) (fun hH2 => ?_)
            clear hK K hH
            have hH := hH2
            clear hH2
            try simp only [Act.put, List.setIfInBounds_toArray, List.set_cons_zero, List.set_cons_succ, List.getElem_toArray, List.getElem_cons_zero, List.getElem_cons_succ]
            refine wpAnyH_take (i := 12) (v := ?v13) rfl (by kernel_rfl) (by kernel_rfl) (by kernel_rfl) (fun _ _ _ h => h) (Or.inl ⟨by rfl, ?hy13⟩) hH ?rest13
            case hy13 => (intro w hSw; (try dsimp only at hSw); go_simp; try with_reducible rfl)
            try simp only [Act.put, List.setIfInBounds_toArray, List.set_cons_zero, List.set_cons_succ, List.getElem_toArray, List.getElem_cons_zero, List.getElem_cons_succ]
            refine wpAnyH_take (i := 13) (v := ?v14) rfl (by kernel_rfl) (by kernel_rfl) (by kernel_rfl) (fun _ _ _ h => h) (Or.inl ⟨by rfl, ?hy14⟩) hH ?rest14
            case hy14 => (intro w hSw; (try dsimp only at hSw); go_simp; try with_reducible rfl)
            try simp only [Act.put, List.setIfInBounds_toArray, List.set_cons_zero, List.set_cons_succ, List.getElem_toArray, List.getElem_cons_zero, List.getElem_cons_succ]
            refine wpAnyH_done (by kernel_rfl) ?_ _
            have HB7 := Lib.hid (HB6.out.trans (hH.mono HB6.out.size))
            clear HP2 SB BD HB6 Hnt HIt ht1 ht2 hH hw hzz0 hzl Hoz
            go_wp2
            go_loopg [14] mm.length (fun q t W => ∃ j : Nat, j + q = mm.length ∧ t = .int .i64 (j : Int) ∧ Hid (Below w4.heap.size w4 W))
            case atStart => exact ⟨0, by omega, rfl, HB7.out⟩
            case round =>
              clear HB7
              obtain ⟨j, hj, rfl, hB⟩ := hrel
              by_cases hjt : j < mm.length
              · have hji : (j : Int) < (mm.length : Int) := by omega
                have hj0 : (0 : Int) ≤ (j : Int) := by omega
                have HY := Lib.hid (List.getElem?_eq_getElem hjt)
                have HMy := Lib.hid (List.getElem_mem hjt)
                have hNw := HNl.out.to hB.out hB.out.size
                obtain ⟨b', off', e', hbl, p0, p1, p2, p3⟩ := hNw.at_ HX.out
                cases e'
                obtain ⟨b4, off4, rfl, hbl4, m0, m1⟩ := (HM.out.to hB.out hB.out.size).at_ HY.out
                have HW : ∀ V, Below wr.heap.size wr V → Hid (Calls Tryz.prog 20 #[.agg #[.int .i64 xq, .slice xh xd.length xc], iv mm[j]] V (At.BoolPost V (wa ⟨xb, xs, xq, xd, xh, xc⟩ mm[j]))) := fun V hV =>
                  At.waits_any xq mm[j].1 mm[j].2 xh xc xd V ((HDx.out.to hB.out hB.out.size).to hV hV.size) (by have := HMb.out _ HMy.out; omega)
                rw [Hfm.out _ HMy.out] at HW
                generalize mm[j] = y at *
                obtain ⟨yb, ys⟩ := y
                simp only [iv] at *
                have SB : Hid (∀ v, Below wr.heap.size wr v → v.cell? ⟨b, off + k * 4 + 2, none⟩ = some (.int .i64 xq) ∧ v.cell? ⟨b, off + k * 4 + 3, none⟩ = some (.slice xh xd.length xc) ∧ v.cell? ⟨b4, off4 + j * 2, none⟩ = some (.int .i64 yb) ∧ v.cell? ⟨b4, off4 + j * 2 + 1, none⟩ = some (.int .i64 ys)) := Lib.hid (fun v g => ⟨(World.cell?_of_block (g.block _ hbl)).trans p2, (World.cell?_of_block (g.block _ hbl)).trans p3, (World.cell?_of_block (g.block _ hbl4)).trans m0, (World.cell?_of_block (g.block _ hbl4)).trans m1⟩)
                have BD : Hid (Below wr.heap.size wr wr.drew) := (Below.refl _ _).drew
                clear p0 p1 p2 p3 m0 m1 hNw HMy
                go_wp2_with fail
                refine wp_region_held_drew (S := fun v => Below wr.heap.size wr v) (by kernel_rfl) BD.out (fun hH => ?_)
                refine wpAnyH_take (i := 0) (v := ?v15) rfl (by kernel_rfl) (by kernel_rfl) (by kernel_rfl) (fun _ _ _ h => h) (Or.inl ⟨by rfl, ?hy15⟩) hH ?rest15
                case hy15 => (intro w hSw; (try dsimp only at hSw); go_simp; try with_reducible rfl)
                try simp only [Act.put, List.setIfInBounds_toArray, List.set_cons_zero, List.set_cons_succ, List.getElem_toArray, List.getElem_cons_zero]
                refine wpAnyH_take (i := 1) (v := ?v16) rfl (by kernel_rfl) (by kernel_rfl) (by kernel_rfl) (fun _ _ _ h => h) (Or.inl ⟨by rfl, ?hy16⟩) hH ?rest16
                case hy16 => (intro w hSw; (try dsimp only at hSw); go_simp; try with_reducible rfl)
                try simp only [Act.put, List.setIfInBounds_toArray, List.set_cons_zero, List.set_cons_succ, List.getElem_toArray, List.getElem_cons_zero, List.getElem_cons_succ]
                refine wpAnyH_take (i := 5) (v := ?v17) rfl (by kernel_rfl) (by kernel_rfl) (by kernel_rfl) (fun _ _ _ h => h) (Or.inl ⟨by rfl, ?hy17⟩) hH ?rest17
                case hy17 => (intro w hSw; (try dsimp only at hSw); go_simp; try with_reducible rfl)
                try simp only [Act.put, List.setIfInBounds_toArray, List.set_cons_zero, List.set_cons_succ, List.getElem_toArray, List.getElem_cons_zero, List.getElem_cons_succ]
                refine wpAnyH_take (i := 6) (v := ?v18) rfl (by kernel_rfl) (by kernel_rfl) (by kernel_rfl) (fun _ _ _ h => h) (Or.inl ⟨by rfl, ?hy18⟩) hH ?rest18
                case hy18 => (intro w hSw; (try dsimp only at hSw); go_simp; try with_reducible rfl)
                try simp only [Act.put, List.setIfInBounds_toArray, List.set_cons_zero, List.set_cons_succ, List.getElem_toArray, List.getElem_cons_zero, List.getElem_cons_succ]
                refine wpAnyH_take (i := 2) (v := ?v19) rfl (by kernel_rfl) (by kernel_rfl) (by kernel_rfl) (fun _ _ _ h => h) (Or.inl ⟨by rfl, ?hy19⟩) hH ?rest19
                case hy19 => (intro w hSw; (try dsimp only at hSw); go_simp; try with_reducible rfl)
                try simp only [Act.put, List.setIfInBounds_toArray, List.set_cons_zero, List.set_cons_succ, List.getElem_toArray, List.getElem_cons_zero, List.getElem_cons_succ]
                refine wpAnyH_take (i := 7) (v := ?v20) rfl (by kernel_rfl) (by kernel_rfl) (by kernel_rfl) (fun _ _ _ h => h) (Or.inl ⟨by rfl, ?hy20⟩) hH ?rest20
                case hy20 => (intro w hSw; (try dsimp only at hSw); go_simp; try with_reducible rfl)
                try simp only [Act.put, List.setIfInBounds_toArray, List.set_cons_zero, List.set_cons_succ, List.getElem_toArray, List.getElem_cons_zero, List.getElem_cons_succ]
                refine wpAnyH_take (i := 3) (v := ?v21) rfl (by kernel_rfl) (by kernel_rfl) (by kernel_rfl) (fun _ _ _ h => h) (Or.inl ⟨by rfl, ?hy21⟩) hH ?rest21
                case hy21 => (intro w hSw; (try dsimp only at hSw); go_simp; try with_reducible rfl)
                try simp only [Act.put, List.setIfInBounds_toArray, List.set_cons_zero, List.set_cons_succ, List.getElem_toArray, List.getElem_cons_zero, List.getElem_cons_succ]
                refine wpAnyH_take (i := 8) (v := ?v22) rfl (by kernel_rfl) (by kernel_rfl) (by kernel_rfl) (fun _ _ _ h => h) (Or.inl ⟨by rfl, ?hy22⟩) hH ?rest22
                case hy22 => (intro w hSw; (try dsimp only at hSw); obtain ⟨f0, f1, f2, f3⟩ := SB.out w hSw; go_simp; try with_reducible rfl)
                try simp only [Act.put, List.setIfInBounds_toArray, List.set_cons_zero, List.set_cons_succ, List.getElem_toArray, List.getElem_cons_zero, List.getElem_cons_succ]
                refine wpAnyH_take (i := 4) (v := ?v23) rfl (by kernel_rfl) (by kernel_rfl) (by kernel_rfl) (fun _ _ _ h => h) (Or.inl ⟨by rfl, ?hy23⟩) hH ?rest23
                case hy23 => (intro w hSw; (try dsimp only at hSw); obtain ⟨f0, f1, f2, f3⟩ := SB.out w hSw; go_simp; try with_reducible rfl)
                try simp only [Act.put, List.setIfInBounds_toArray, List.set_cons_zero, List.set_cons_succ, List.getElem_toArray, List.getElem_cons_zero, List.getElem_cons_succ]
                refine wpAnyH_ready (rs := [9]) (by kernel_rfl) (by simp) ?_
                refine AllReadyH.cons rfl (fun K hK => ?_) AllReadyH.nil
                go_simp
                go_at_call 20
                with_reducible refine (HW _ hH).out.mono ?_
                rintro e wq24 ⟨rfl, bq24⟩
                go_wp2_with fail
                refine hK.out _ _ (hH.trans (bq24.mono hH.size)) (fun hH2 => ?_)
                clear hK K hH
                have hH := hH2
                clear hH2
                try simp only [Act.put, List.setIfInBounds_toArray, List.set_cons_zero, List.set_cons_succ, List.getElem_toArray, List.getElem_cons_zero, List.getElem_cons_succ]
                refine wpAnyH_done (by kernel_rfl) ?_ _
                have HB8 := Lib.hid (hB.out.trans (hH.mono hB.out.size))
                clear HW SB BD hB hH
                go_wp2
                go_roundg (mm.length - (j + 1))
                case measure => omega
                case rel => exact ⟨j + 1, by omega, by go_num, HB8.out⟩
              · obtain rfl : j = mm.length := by omega
                go_wp2
                go_loopg [15] l.length (fun q t W => ∃ j : Nat, j + q = l.length ∧ t = .int .i64 (j : Int) ∧ Hid (Below w4.heap.size w4 W))
                case atStart => exact ⟨0, by omega, rfl, hB.out⟩
                case round =>
                  clear hB hj hjt
                  obtain ⟨j, hj, rfl, hB⟩ := hrel
                  by_cases hjt : j < l.length
                  · have hji : (j : Int) < (l.length : Int) := by omega
                    have hj0 : (0 : Int) ≤ (j : Int) := by omega
                    have HY := Lib.hid (List.getElem?_eq_getElem hjt)
                    have HMy := Lib.hid (List.getElem_mem hjt)
                    have hNw := HNl.out.to hB.out hB.out.size
                    obtain ⟨b', off', e', hbl, p0, p1, p2, p3⟩ := hNw.at_ HX.out
                    cases e'
                    obtain ⟨b', off', e', _, q0, q1, q2, q3⟩ := hNw.at_ HY.out
                    cases e'
                    have HW : ∀ V, Below wr.heap.size wr V → Hid (Calls Tryz.prog 20 #[.agg #[.int .i64 xq, .slice xh xd.length xc], iv l[j].i] V (At.BoolPost V (wa ⟨xb, xs, xq, xd, xh, xc⟩ l[j].i))) := fun V hV =>
                      At.waits_any xq l[j].b l[j].s xh xc xd V ((HDx.out.to hB.out hB.out.size).to hV hV.size) (HWf.out _ HMy.out).1.1.2
                    have HK2 : Hid (wa ⟨xb, xs, xq, xd, xh, xc⟩ l[j].i = true → l[j].i ∈ D ∨ l[j].i ∈ o) := Hfk.out l[j]
                    have HDin : l[j].i ∈ D → ∀ V, Below wr.heap.size wr V → Hid (Calls Tryz.prog 18 #[.slice Ad D.length cd, iv l[j].i] V (fun e w' => ∃ z : Nat, e = .returned (.int .i64 (z : Int)) ∧ Below V.heap.size V w')) := fun h V hV => place_in Ad cd D _ h (by omega) V ((HDn.out.to hB.out hB.out.size).to hV hV.size)
                    have HDout : l[j].i ∉ D → ∀ V, Below wr.heap.size wr V → Hid (Calls Tryz.prog 18 #[.slice Ad D.length cd, iv l[j].i] V (fun e w' => e = .returned (.int .i64 (-1)) ∧ Below V.heap.size V w')) := fun h V hV => place_out Ad cd D _ h (by omega) V ((HDn.out.to hB.out hB.out.size).to hV hV.size)
                    have HOin : l[j].i ∈ o → ∀ V, Below wr.heap.size wr V → Hid (Calls Tryz.prog 18 #[.slice A3 o.length c3, iv l[j].i] V (fun e w' => ∃ z : Nat, e = .returned (.int .i64 (z : Int)) ∧ Below V.heap.size V w')) := fun h V hV => place_in A3 c3 o _ h (by omega) V ((HO.out.to hB.out hB.out.size).to hV hV.size)
                    generalize l[j] = y at *
                    obtain ⟨yb, ys, yq, yd, yh, yc⟩ := y
                    generalize wa ⟨xb, xs, xq, xd, xh, xc⟩ (No.i ⟨yb, ys, yq, yd, yh, yc⟩) = wv at *
                    simp only [iv, No.i] at *
                    have SB : Hid (∀ v, Below wr.heap.size wr v → v.cell? ⟨b, off + k * 4 + 2, none⟩ = some (.int .i64 xq) ∧ v.cell? ⟨b, off + k * 4 + 3, none⟩ = some (.slice xh xd.length xc) ∧ v.cell? ⟨b, off + j * 4, none⟩ = some (.int .i64 yb) ∧ v.cell? ⟨b, off + j * 4 + 1, none⟩ = some (.int .i64 ys)) := Lib.hid (fun v g => ⟨(World.cell?_of_block (g.block _ hbl)).trans p2, (World.cell?_of_block (g.block _ hbl)).trans p3, (World.cell?_of_block (g.block _ hbl)).trans q0, (World.cell?_of_block (g.block _ hbl)).trans q1⟩)
                    have BD : Hid (Below wr.heap.size wr wr.drew) := (Below.refl _ _).drew
                    clear p0 p1 p2 p3 q0 q1 q2 q3 hNw HMy
                    rcases wv with _ | _
                    · clear HK2 HDin HDout HOin
                      go_wp2_with fail
                      refine wp_region_held_drew (S := fun v => Below wr.heap.size wr v) (by kernel_rfl) BD.out (fun hH => ?_)
                      refine wpAnyH_take (i := 0) (v := ?v25) rfl (by kernel_rfl) (by kernel_rfl) (by kernel_rfl) (fun _ _ _ h => h) (Or.inl ⟨by rfl, ?hy25⟩) hH ?rest25
                      case hy25 => (intro w hSw; (try dsimp only at hSw); go_simp; try with_reducible rfl)
                      try simp only [Act.put, List.setIfInBounds_toArray, List.set_cons_zero, List.set_cons_succ, List.getElem_toArray, List.getElem_cons_zero]
                      refine wpAnyH_take (i := 1) (v := ?v26) rfl (by kernel_rfl) (by kernel_rfl) (by kernel_rfl) (fun _ _ _ h => h) (Or.inl ⟨by rfl, ?hy26⟩) hH ?rest26
                      case hy26 => (intro w hSw; (try dsimp only at hSw); go_simp; try with_reducible rfl)
                      try simp only [Act.put, List.setIfInBounds_toArray, List.set_cons_zero, List.set_cons_succ, List.getElem_toArray, List.getElem_cons_zero, List.getElem_cons_succ]
                      refine wpAnyH_take (i := 5) (v := ?v27) rfl (by kernel_rfl) (by kernel_rfl) (by kernel_rfl) (fun _ _ _ h => h) (Or.inl ⟨by rfl, ?hy27⟩) hH ?rest27
                      case hy27 => (intro w hSw; (try dsimp only at hSw); go_simp; try with_reducible rfl)
                      try simp only [Act.put, List.setIfInBounds_toArray, List.set_cons_zero, List.set_cons_succ, List.getElem_toArray, List.getElem_cons_zero, List.getElem_cons_succ]
                      refine wpAnyH_take (i := 6) (v := ?v28) rfl (by kernel_rfl) (by kernel_rfl) (by kernel_rfl) (fun _ _ _ h => h) (Or.inl ⟨by rfl, ?hy28⟩) hH ?rest28
                      case hy28 => (intro w hSw; (try dsimp only at hSw); go_simp; try with_reducible rfl)
                      try simp only [Act.put, List.setIfInBounds_toArray, List.set_cons_zero, List.set_cons_succ, List.getElem_toArray, List.getElem_cons_zero, List.getElem_cons_succ]
                      refine wpAnyH_take (i := 2) (v := ?v29) rfl (by kernel_rfl) (by kernel_rfl) (by kernel_rfl) (fun _ _ _ h => h) (Or.inl ⟨by rfl, ?hy29⟩) hH ?rest29
                      case hy29 => (intro w hSw; (try dsimp only at hSw); go_simp; try with_reducible rfl)
                      try simp only [Act.put, List.setIfInBounds_toArray, List.set_cons_zero, List.set_cons_succ, List.getElem_toArray, List.getElem_cons_zero, List.getElem_cons_succ]
                      refine wpAnyH_take (i := 7) (v := ?v30) rfl (by kernel_rfl) (by kernel_rfl) (by kernel_rfl) (fun _ _ _ h => h) (Or.inl ⟨by rfl, ?hy30⟩) hH ?rest30
                      case hy30 => (intro w hSw; (try dsimp only at hSw); go_simp; try with_reducible rfl)
                      try simp only [Act.put, List.setIfInBounds_toArray, List.set_cons_zero, List.set_cons_succ, List.getElem_toArray, List.getElem_cons_zero, List.getElem_cons_succ]
                      refine wpAnyH_take (i := 3) (v := ?v31) rfl (by kernel_rfl) (by kernel_rfl) (by kernel_rfl) (fun _ _ _ h => h) (Or.inl ⟨by rfl, ?hy31⟩) hH ?rest31
                      case hy31 => (intro w hSw; (try dsimp only at hSw); go_simp; try with_reducible rfl)
                      try simp only [Act.put, List.setIfInBounds_toArray, List.set_cons_zero, List.set_cons_succ, List.getElem_toArray, List.getElem_cons_zero, List.getElem_cons_succ]
                      refine wpAnyH_take (i := 8) (v := ?v32) rfl (by kernel_rfl) (by kernel_rfl) (by kernel_rfl) (fun _ _ _ h => h) (Or.inl ⟨by rfl, ?hy32⟩) hH ?rest32
                      case hy32 => (intro w hSw; (try dsimp only at hSw); go_simp; try with_reducible rfl)
                      try simp only [Act.put, List.setIfInBounds_toArray, List.set_cons_zero, List.set_cons_succ, List.getElem_toArray, List.getElem_cons_zero, List.getElem_cons_succ]
                      refine wpAnyH_take (i := 4) (v := ?v33) rfl (by kernel_rfl) (by kernel_rfl) (by kernel_rfl) (fun _ _ _ h => h) (Or.inl ⟨by rfl, ?hy33⟩) hH ?rest33
                      case hy33 => (intro w hSw; (try dsimp only at hSw); obtain ⟨f0, f1, f2, f3⟩ := SB.out w hSw; go_simp; try with_reducible rfl)
                      try simp only [Act.put, List.setIfInBounds_toArray, List.set_cons_zero, List.set_cons_succ, List.getElem_toArray, List.getElem_cons_zero, List.getElem_cons_succ]
                      refine wpAnyH_take (i := 9) (v := ?v34) rfl (by kernel_rfl) (by kernel_rfl) (by kernel_rfl) (fun _ _ _ h => h) (Or.inl ⟨by rfl, ?hy34⟩) hH ?rest34
                      case hy34 => (intro w hSw; (try dsimp only at hSw); obtain ⟨f0, f1, f2, f3⟩ := SB.out w hSw; go_simp; try with_reducible rfl)
                      try simp only [Act.put, List.setIfInBounds_toArray, List.set_cons_zero, List.set_cons_succ, List.getElem_toArray, List.getElem_cons_zero, List.getElem_cons_succ]
                      refine wpAnyH_ready (rs := [10]) (by kernel_rfl) (by simp) ?_
                      refine AllReadyH.cons rfl (fun K hK => ?_) AllReadyH.nil
                      go_simp
                      go_at_call 20
                      with_reducible refine (HW _ hH).out.mono ?_
                      rintro e wq35 ⟨rfl, bq35⟩
                      go_wp2_with fail
                      refine hK.out _ _ (hH.trans (bq35.mono hH.size)) (fun hH2 => ?_)
                      clear hK K hH
                      have hH := hH2
                      clear hH2
                      try simp only [Act.put, List.setIfInBounds_toArray, List.set_cons_zero, List.set_cons_succ, List.getElem_toArray, List.getElem_cons_zero, List.getElem_cons_succ]
                      refine wpAnyH_take (i := 11) (v := ?v36) rfl (by kernel_rfl) (by kernel_rfl) (by kernel_rfl) (fun _ _ _ h => h) (Or.inl ⟨by rfl, ?hy36⟩) hH ?rest36
                      case hy36 => (intro w hSw; (try dsimp only at hSw); go_simp; try with_reducible rfl)
                      try simp only [Act.put, List.setIfInBounds_toArray, List.set_cons_zero, List.set_cons_succ, List.getElem_toArray, List.getElem_cons_zero, List.getElem_cons_succ]
                      refine wpAnyH_take (i := 12) (v := undef) rfl (by kernel_rfl) (by kernel_rfl) (by kernel_rfl) (fun _ _ _ h => h) (Or.inr ⟨by rfl, rfl⟩) hH ?rest37
                      try simp only [Act.put, List.setIfInBounds_toArray, List.set_cons_zero, List.set_cons_succ, List.getElem_toArray, List.getElem_cons_zero, List.getElem_cons_succ]
                      refine wpAnyH_take (i := 13) (v := undef) rfl (by kernel_rfl) (by kernel_rfl) (by kernel_rfl) (fun _ _ _ h => h) (Or.inr ⟨by rfl, rfl⟩) hH ?rest38
                      try simp only [Act.put, List.setIfInBounds_toArray, List.set_cons_zero, List.set_cons_succ, List.getElem_toArray, List.getElem_cons_zero, List.getElem_cons_succ]
                      refine wpAnyH_take (i := 14) (v := undef) rfl (by kernel_rfl) (by kernel_rfl) (by kernel_rfl) (fun _ _ _ h => h) (Or.inr ⟨by rfl, rfl⟩) hH ?rest39
                      try simp only [Act.put, List.setIfInBounds_toArray, List.set_cons_zero, List.set_cons_succ, List.getElem_toArray, List.getElem_cons_zero, List.getElem_cons_succ]
                      refine wpAnyH_take (i := 15) (v := undef) rfl (by kernel_rfl) (by kernel_rfl) (by kernel_rfl) (fun _ _ _ h => h) (Or.inr ⟨by rfl, rfl⟩) hH ?rest40
                      try simp only [Act.put, List.setIfInBounds_toArray, List.set_cons_zero, List.set_cons_succ, List.getElem_toArray, List.getElem_cons_zero, List.getElem_cons_succ]
                      refine wpAnyH_take (i := 16) (v := undef) rfl (by kernel_rfl) (by kernel_rfl) (by kernel_rfl) (fun _ _ _ h => h) (Or.inr ⟨by rfl, rfl⟩) hH ?rest41
                      try simp only [Act.put, List.setIfInBounds_toArray, List.set_cons_zero, List.set_cons_succ, List.getElem_toArray, List.getElem_cons_zero, List.getElem_cons_succ]
                      refine wpAnyH_take (i := 17) (v := undef) rfl (by kernel_rfl) (by kernel_rfl) (by kernel_rfl) (fun _ _ _ h => h) (Or.inr ⟨by rfl, rfl⟩) hH ?rest42
                      try simp only [Act.put, List.setIfInBounds_toArray, List.set_cons_zero, List.set_cons_succ, List.getElem_toArray, List.getElem_cons_zero, List.getElem_cons_succ]
                      refine wpAnyH_take (i := 18) (v := undef) rfl (by kernel_rfl) (by kernel_rfl) (by kernel_rfl) (fun _ _ _ h => h) (Or.inr ⟨by rfl, rfl⟩) hH ?rest43
                      try simp only [Act.put, List.setIfInBounds_toArray, List.set_cons_zero, List.set_cons_succ, List.getElem_toArray, List.getElem_cons_zero, List.getElem_cons_succ]
                      refine wpAnyH_take (i := 19) (v := undef) rfl (by kernel_rfl) (by kernel_rfl) (by kernel_rfl) (fun _ _ _ h => h) (Or.inr ⟨by rfl, rfl⟩) hH ?rest44
                      try simp only [Act.put, List.setIfInBounds_toArray, List.set_cons_zero, List.set_cons_succ, List.getElem_toArray, List.getElem_cons_zero, List.getElem_cons_succ]
                      refine wpAnyH_take (i := 20) (v := ?v45) rfl (by kernel_rfl) (by kernel_rfl) (by kernel_rfl) (fun _ _ _ h => h) (Or.inl ⟨by rfl, ?hy45⟩) hH ?rest45
                      case hy45 => (intro w hSw; (try dsimp only at hSw); go_simp; try with_reducible rfl)
                      try simp only [Act.put, List.setIfInBounds_toArray, List.set_cons_zero, List.set_cons_succ, List.getElem_toArray, List.getElem_cons_zero, List.getElem_cons_succ]
                      refine wpAnyH_take (i := 21) (v := ?v46) rfl (by kernel_rfl) (by kernel_rfl) (by kernel_rfl) (fun _ _ _ h => h) (Or.inl ⟨by rfl, ?hy46⟩) hH ?rest46
                      case hy46 => (intro w hSw; (try dsimp only at hSw); go_simp; try with_reducible rfl)
                      try simp only [Act.put, List.setIfInBounds_toArray, List.set_cons_zero, List.set_cons_succ, List.getElem_toArray, List.getElem_cons_zero, List.getElem_cons_succ]
                      refine wpAnyH_take (i := 22) (v := undef) rfl (by kernel_rfl) (by kernel_rfl) (by kernel_rfl) (fun _ _ _ h => h) (Or.inr ⟨by rfl, rfl⟩) hH ?rest47
                      try simp only [Act.put, List.setIfInBounds_toArray, List.set_cons_zero, List.set_cons_succ, List.getElem_toArray, List.getElem_cons_zero, List.getElem_cons_succ]
                      refine wpAnyH_take (i := 23) (v := undef) rfl (by kernel_rfl) (by kernel_rfl) (by kernel_rfl) (fun _ _ _ h => h) (Or.inr ⟨by rfl, rfl⟩) hH ?rest48
                      try simp only [Act.put, List.setIfInBounds_toArray, List.set_cons_zero, List.set_cons_succ, List.getElem_toArray, List.getElem_cons_zero, List.getElem_cons_succ]
                      refine wpAnyH_take (i := 24) (v := undef) rfl (by kernel_rfl) (by kernel_rfl) (by kernel_rfl) (fun _ _ _ h => h) (Or.inr ⟨by rfl, rfl⟩) hH ?rest49
                      try simp only [Act.put, List.setIfInBounds_toArray, List.set_cons_zero, List.set_cons_succ, List.getElem_toArray, List.getElem_cons_zero, List.getElem_cons_succ]
                      refine wpAnyH_take (i := 25) (v := undef) rfl (by kernel_rfl) (by kernel_rfl) (by kernel_rfl) (fun _ _ _ h => h) (Or.inr ⟨by rfl, rfl⟩) hH ?rest50
                      try simp only [Act.put, List.setIfInBounds_toArray, List.set_cons_zero, List.set_cons_succ, List.getElem_toArray, List.getElem_cons_zero, List.getElem_cons_succ]
                      refine wpAnyH_take (i := 26) (v := undef) rfl (by kernel_rfl) (by kernel_rfl) (by kernel_rfl) (fun _ _ _ h => h) (Or.inr ⟨by rfl, rfl⟩) hH ?rest51
                      try simp only [Act.put, List.setIfInBounds_toArray, List.set_cons_zero, List.set_cons_succ, List.getElem_toArray, List.getElem_cons_zero, List.getElem_cons_succ]
                      refine wpAnyH_take (i := 27) (v := undef) rfl (by kernel_rfl) (by kernel_rfl) (by kernel_rfl) (fun _ _ _ h => h) (Or.inr ⟨by rfl, rfl⟩) hH ?rest52
                      try simp only [Act.put, List.setIfInBounds_toArray, List.set_cons_zero, List.set_cons_succ, List.getElem_toArray, List.getElem_cons_zero, List.getElem_cons_succ]
                      refine wpAnyH_take (i := 28) (v := undef) rfl (by kernel_rfl) (by kernel_rfl) (by kernel_rfl) (fun _ _ _ h => h) (Or.inr ⟨by rfl, rfl⟩) hH ?rest53
                      try simp only [Act.put, List.setIfInBounds_toArray, List.set_cons_zero, List.set_cons_succ, List.getElem_toArray, List.getElem_cons_zero, List.getElem_cons_succ]
                      refine wpAnyH_take (i := 29) (v := undef) rfl (by kernel_rfl) (by kernel_rfl) (by kernel_rfl) (fun _ _ _ h => h) (Or.inr ⟨by rfl, rfl⟩) hH ?rest54
                      try simp only [Act.put, List.setIfInBounds_toArray, List.set_cons_zero, List.set_cons_succ, List.getElem_toArray, List.getElem_cons_zero, List.getElem_cons_succ]
                      refine wpAnyH_take (i := 30) (v := ?v55) rfl (by kernel_rfl) (by kernel_rfl) (by kernel_rfl) (fun _ _ _ h => h) (Or.inl ⟨by rfl, ?hy55⟩) hH ?rest55
                      case hy55 => (intro w hSw; (try dsimp only at hSw); go_simp; try with_reducible rfl)
                      try simp only [Act.put, List.setIfInBounds_toArray, List.set_cons_zero, List.set_cons_succ, List.getElem_toArray, List.getElem_cons_zero, List.getElem_cons_succ]
                      refine wpAnyH_done (by kernel_rfl) ?_ _
                      have HB8 := Lib.hid (hB.out.trans (hH.mono hB.out.size))
                      clear HW SB BD hB hH
                      go_wp2
                      go_roundg (l.length - (j + 1))
                      case measure => omega
                      case rel => exact ⟨j + 1, by omega, by go_num, HB8.out⟩
                    · by_cases hyD : (yb, ys) ∈ D
                      · have HP := HDin hyD
                        clear HK2 HDin HDout HOin hyD
                        go_wp2_with fail
                        refine wp_region_held_drew (S := fun v => Below wr.heap.size wr v) (by kernel_rfl) BD.out (fun hH => ?_)
                        refine wpAnyH_take (i := 0) (v := ?v56) rfl (by kernel_rfl) (by kernel_rfl) (by kernel_rfl) (fun _ _ _ h => h) (Or.inl ⟨by rfl, ?hy56⟩) hH ?rest56
                        case hy56 => (intro w hSw; (try dsimp only at hSw); go_simp; try with_reducible rfl)
                        try simp only [Act.put, List.setIfInBounds_toArray, List.set_cons_zero, List.set_cons_succ, List.getElem_toArray, List.getElem_cons_zero]
                        refine wpAnyH_take (i := 1) (v := ?v57) rfl (by kernel_rfl) (by kernel_rfl) (by kernel_rfl) (fun _ _ _ h => h) (Or.inl ⟨by rfl, ?hy57⟩) hH ?rest57
                        case hy57 => (intro w hSw; (try dsimp only at hSw); go_simp; try with_reducible rfl)
                        try simp only [Act.put, List.setIfInBounds_toArray, List.set_cons_zero, List.set_cons_succ, List.getElem_toArray, List.getElem_cons_zero, List.getElem_cons_succ]
                        refine wpAnyH_take (i := 5) (v := ?v58) rfl (by kernel_rfl) (by kernel_rfl) (by kernel_rfl) (fun _ _ _ h => h) (Or.inl ⟨by rfl, ?hy58⟩) hH ?rest58
                        case hy58 => (intro w hSw; (try dsimp only at hSw); go_simp; try with_reducible rfl)
                        try simp only [Act.put, List.setIfInBounds_toArray, List.set_cons_zero, List.set_cons_succ, List.getElem_toArray, List.getElem_cons_zero, List.getElem_cons_succ]
                        refine wpAnyH_take (i := 6) (v := ?v59) rfl (by kernel_rfl) (by kernel_rfl) (by kernel_rfl) (fun _ _ _ h => h) (Or.inl ⟨by rfl, ?hy59⟩) hH ?rest59
                        case hy59 => (intro w hSw; (try dsimp only at hSw); go_simp; try with_reducible rfl)
                        try simp only [Act.put, List.setIfInBounds_toArray, List.set_cons_zero, List.set_cons_succ, List.getElem_toArray, List.getElem_cons_zero, List.getElem_cons_succ]
                        refine wpAnyH_take (i := 2) (v := ?v60) rfl (by kernel_rfl) (by kernel_rfl) (by kernel_rfl) (fun _ _ _ h => h) (Or.inl ⟨by rfl, ?hy60⟩) hH ?rest60
                        case hy60 => (intro w hSw; (try dsimp only at hSw); go_simp; try with_reducible rfl)
                        try simp only [Act.put, List.setIfInBounds_toArray, List.set_cons_zero, List.set_cons_succ, List.getElem_toArray, List.getElem_cons_zero, List.getElem_cons_succ]
                        refine wpAnyH_take (i := 7) (v := ?v61) rfl (by kernel_rfl) (by kernel_rfl) (by kernel_rfl) (fun _ _ _ h => h) (Or.inl ⟨by rfl, ?hy61⟩) hH ?rest61
                        case hy61 => (intro w hSw; (try dsimp only at hSw); go_simp; try with_reducible rfl)
                        try simp only [Act.put, List.setIfInBounds_toArray, List.set_cons_zero, List.set_cons_succ, List.getElem_toArray, List.getElem_cons_zero, List.getElem_cons_succ]
                        refine wpAnyH_take (i := 3) (v := ?v62) rfl (by kernel_rfl) (by kernel_rfl) (by kernel_rfl) (fun _ _ _ h => h) (Or.inl ⟨by rfl, ?hy62⟩) hH ?rest62
                        case hy62 => (intro w hSw; (try dsimp only at hSw); go_simp; try with_reducible rfl)
                        try simp only [Act.put, List.setIfInBounds_toArray, List.set_cons_zero, List.set_cons_succ, List.getElem_toArray, List.getElem_cons_zero, List.getElem_cons_succ]
                        refine wpAnyH_take (i := 8) (v := ?v63) rfl (by kernel_rfl) (by kernel_rfl) (by kernel_rfl) (fun _ _ _ h => h) (Or.inl ⟨by rfl, ?hy63⟩) hH ?rest63
                        case hy63 => (intro w hSw; (try dsimp only at hSw); go_simp; try with_reducible rfl)
                        try simp only [Act.put, List.setIfInBounds_toArray, List.set_cons_zero, List.set_cons_succ, List.getElem_toArray, List.getElem_cons_zero, List.getElem_cons_succ]
                        refine wpAnyH_take (i := 4) (v := ?v64) rfl (by kernel_rfl) (by kernel_rfl) (by kernel_rfl) (fun _ _ _ h => h) (Or.inl ⟨by rfl, ?hy64⟩) hH ?rest64
                        case hy64 => (intro w hSw; (try dsimp only at hSw); obtain ⟨f0, f1, f2, f3⟩ := SB.out w hSw; go_simp; try with_reducible rfl)
                        try simp only [Act.put, List.setIfInBounds_toArray, List.set_cons_zero, List.set_cons_succ, List.getElem_toArray, List.getElem_cons_zero, List.getElem_cons_succ]
                        refine wpAnyH_take (i := 9) (v := ?v65) rfl (by kernel_rfl) (by kernel_rfl) (by kernel_rfl) (fun _ _ _ h => h) (Or.inl ⟨by rfl, ?hy65⟩) hH ?rest65
                        case hy65 => (intro w hSw; (try dsimp only at hSw); obtain ⟨f0, f1, f2, f3⟩ := SB.out w hSw; go_simp; try with_reducible rfl)
                        try simp only [Act.put, List.setIfInBounds_toArray, List.set_cons_zero, List.set_cons_succ, List.getElem_toArray, List.getElem_cons_zero, List.getElem_cons_succ]
                        refine wpAnyH_ready (rs := [10]) (by kernel_rfl) (by simp) ?_
                        refine AllReadyH.cons rfl (fun K hK => ?_) AllReadyH.nil
                        go_simp
                        go_at_call 20
                        with_reducible refine (HW _ hH).out.mono ?_
                        rintro e wq66 ⟨rfl, bq66⟩
                        go_wp2_with fail
                        refine hK.out _ _ (hH.trans (bq66.mono hH.size)) (fun hH2 => ?_)
                        clear hK K hH
                        have hH := hH2
                        clear hH2
                        try simp only [Act.put, List.setIfInBounds_toArray, List.set_cons_zero, List.set_cons_succ, List.getElem_toArray, List.getElem_cons_zero, List.getElem_cons_succ]
                        refine wpAnyH_take (i := 11) (v := ?v67) rfl (by kernel_rfl) (by kernel_rfl) (by kernel_rfl) (fun _ _ _ h => h) (Or.inl ⟨by rfl, ?hy67⟩) hH ?rest67
                        case hy67 => (intro w hSw; (try dsimp only at hSw); go_simp; try with_reducible rfl)
                        try simp only [Act.put, List.setIfInBounds_toArray, List.set_cons_zero, List.set_cons_succ, List.getElem_toArray, List.getElem_cons_zero, List.getElem_cons_succ]
                        refine wpAnyH_take (i := 12) (v := ?v68) rfl (by kernel_rfl) (by kernel_rfl) (by kernel_rfl) (fun _ _ _ h => h) (Or.inl ⟨by rfl, ?hy68⟩) hH ?rest68
                        case hy68 => (intro w hSw; (try dsimp only at hSw); go_simp; try with_reducible rfl)
                        try simp only [Act.put, List.setIfInBounds_toArray, List.set_cons_zero, List.set_cons_succ, List.getElem_toArray, List.getElem_cons_zero, List.getElem_cons_succ]
                        refine wpAnyH_take (i := 13) (v := ?v69) rfl (by kernel_rfl) (by kernel_rfl) (by kernel_rfl) (fun _ _ _ h => h) (Or.inl ⟨by rfl, ?hy69⟩) hH ?rest69
                        case hy69 => (intro w hSw; (try dsimp only at hSw); go_simp; try with_reducible rfl)
                        try simp only [Act.put, List.setIfInBounds_toArray, List.set_cons_zero, List.set_cons_succ, List.getElem_toArray, List.getElem_cons_zero, List.getElem_cons_succ]
                        refine wpAnyH_take (i := 14) (v := ?v70) rfl (by kernel_rfl) (by kernel_rfl) (by kernel_rfl) (fun _ _ _ h => h) (Or.inl ⟨by rfl, ?hy70⟩) hH ?rest70
                        case hy70 => (intro w hSw; (try dsimp only at hSw); go_simp; try with_reducible rfl)
                        try simp only [Act.put, List.setIfInBounds_toArray, List.set_cons_zero, List.set_cons_succ, List.getElem_toArray, List.getElem_cons_zero, List.getElem_cons_succ]
                        refine wpAnyH_take (i := 15) (v := ?v71) rfl (by kernel_rfl) (by kernel_rfl) (by kernel_rfl) (fun _ _ _ h => h) (Or.inl ⟨by rfl, ?hy71⟩) hH ?rest71
                        case hy71 => (intro w hSw; (try dsimp only at hSw); go_simp; try with_reducible rfl)
                        try simp only [Act.put, List.setIfInBounds_toArray, List.set_cons_zero, List.set_cons_succ, List.getElem_toArray, List.getElem_cons_zero, List.getElem_cons_succ]
                        refine wpAnyH_take (i := 16) (v := ?v72) rfl (by kernel_rfl) (by kernel_rfl) (by kernel_rfl) (fun _ _ _ h => h) (Or.inl ⟨by rfl, ?hy72⟩) hH ?rest72
                        case hy72 => (intro w hSw; (try dsimp only at hSw); go_simp; try with_reducible rfl)
                        try simp only [Act.put, List.setIfInBounds_toArray, List.set_cons_zero, List.set_cons_succ, List.getElem_toArray, List.getElem_cons_zero, List.getElem_cons_succ]
                        refine wpAnyH_take (i := 17) (v := ?v73) rfl (by kernel_rfl) (by kernel_rfl) (by kernel_rfl) (fun _ _ _ h => h) (Or.inl ⟨by rfl, ?hy73⟩) hH ?rest73
                        case hy73 => (intro w hSw; (try dsimp only at hSw); obtain ⟨f0, f1, f2, f3⟩ := SB.out w hSw; go_simp; try with_reducible rfl)
                        try simp only [Act.put, List.setIfInBounds_toArray, List.set_cons_zero, List.set_cons_succ, List.getElem_toArray, List.getElem_cons_zero, List.getElem_cons_succ]
                        refine wpAnyH_ready (rs := [18]) (by kernel_rfl) (by simp) ?_
                        refine AllReadyH.cons rfl (fun K hK => ?_) AllReadyH.nil
                        go_simp
                        go_at_call 18
                        with_reducible refine (HP _ hH).out.mono ?_
                        rintro e wq74 ⟨zn74, rfl, bq74⟩
                        have hzn74 : decide ((zn74 : Int) < 0) = false := decide_eq_false (by omega)
                        go_wp2_with fail
                        refine hK.out _ _ (hH.trans (bq74.mono hH.size)) (fun hH2 => ?_)
                        clear hK K hH
                        have hH := hH2
                        clear hH2
                        try simp only [Act.put, List.setIfInBounds_toArray, List.set_cons_zero, List.set_cons_succ, List.getElem_toArray, List.getElem_cons_zero, List.getElem_cons_succ]
                        refine wpAnyH_take (i := 19) (v := ?v75) rfl (by kernel_rfl) (by kernel_rfl) (by kernel_rfl) (fun _ _ _ h => h) (Or.inl ⟨by rfl, ?hy75⟩) hH ?rest75
                        case hy75 => (intro w hSw; (try dsimp only at hSw); go_simp; try with_reducible rfl)
                        try simp only [Act.put, List.setIfInBounds_toArray, List.set_cons_zero, List.set_cons_succ, List.getElem_toArray, List.getElem_cons_zero, List.getElem_cons_succ]
                        refine wpAnyH_take (i := 20) (v := ?v76) rfl (by kernel_rfl) (by kernel_rfl) (by kernel_rfl) (fun _ _ _ h => h) (Or.inl ⟨by rfl, ?hy76⟩) hH ?rest76
                        case hy76 => (intro w hSw; (try dsimp only at hSw); go_simp; try with_reducible rfl)
                        try simp only [Act.put, List.setIfInBounds_toArray, List.set_cons_zero, List.set_cons_succ, List.getElem_toArray, List.getElem_cons_zero, List.getElem_cons_succ]
                        refine wpAnyH_take (i := 21) (v := ?v77) rfl (by kernel_rfl) (by kernel_rfl) (by kernel_rfl) (fun _ _ _ h => h) (Or.inl ⟨by rfl, ?hy77⟩) hH ?rest77
                        case hy77 => (intro w hSw; (try dsimp only at hSw); go_simp; try with_reducible rfl)
                        try simp only [Act.put, List.setIfInBounds_toArray, List.set_cons_zero, List.set_cons_succ, List.getElem_toArray, List.getElem_cons_zero, List.getElem_cons_succ]
                        refine wpAnyH_take (i := 22) (v := undef) rfl (by kernel_rfl) (by kernel_rfl) (by kernel_rfl) (fun _ _ _ h => h) (Or.inr ⟨by rfl, rfl⟩) hH ?rest78
                        try simp only [Act.put, List.setIfInBounds_toArray, List.set_cons_zero, List.set_cons_succ, List.getElem_toArray, List.getElem_cons_zero, List.getElem_cons_succ]
                        refine wpAnyH_take (i := 23) (v := undef) rfl (by kernel_rfl) (by kernel_rfl) (by kernel_rfl) (fun _ _ _ h => h) (Or.inr ⟨by rfl, rfl⟩) hH ?rest79
                        try simp only [Act.put, List.setIfInBounds_toArray, List.set_cons_zero, List.set_cons_succ, List.getElem_toArray, List.getElem_cons_zero, List.getElem_cons_succ]
                        refine wpAnyH_take (i := 24) (v := undef) rfl (by kernel_rfl) (by kernel_rfl) (by kernel_rfl) (fun _ _ _ h => h) (Or.inr ⟨by rfl, rfl⟩) hH ?rest80
                        try simp only [Act.put, List.setIfInBounds_toArray, List.set_cons_zero, List.set_cons_succ, List.getElem_toArray, List.getElem_cons_zero, List.getElem_cons_succ]
                        refine wpAnyH_take (i := 25) (v := undef) rfl (by kernel_rfl) (by kernel_rfl) (by kernel_rfl) (fun _ _ _ h => h) (Or.inr ⟨by rfl, rfl⟩) hH ?rest81
                        try simp only [Act.put, List.setIfInBounds_toArray, List.set_cons_zero, List.set_cons_succ, List.getElem_toArray, List.getElem_cons_zero, List.getElem_cons_succ]
                        refine wpAnyH_take (i := 26) (v := undef) rfl (by kernel_rfl) (by kernel_rfl) (by kernel_rfl) (fun _ _ _ h => h) (Or.inr ⟨by rfl, rfl⟩) hH ?rest82
                        try simp only [Act.put, List.setIfInBounds_toArray, List.set_cons_zero, List.set_cons_succ, List.getElem_toArray, List.getElem_cons_zero, List.getElem_cons_succ]
                        refine wpAnyH_take (i := 27) (v := undef) rfl (by kernel_rfl) (by kernel_rfl) (by kernel_rfl) (fun _ _ _ h => h) (Or.inr ⟨by rfl, rfl⟩) hH ?rest83
                        try simp only [Act.put, List.setIfInBounds_toArray, List.set_cons_zero, List.set_cons_succ, List.getElem_toArray, List.getElem_cons_zero, List.getElem_cons_succ]
                        refine wpAnyH_take (i := 28) (v := undef) rfl (by kernel_rfl) (by kernel_rfl) (by kernel_rfl) (fun _ _ _ h => h) (Or.inr ⟨by rfl, rfl⟩) hH ?rest84
                        try simp only [Act.put, List.setIfInBounds_toArray, List.set_cons_zero, List.set_cons_succ, List.getElem_toArray, List.getElem_cons_zero, List.getElem_cons_succ]
                        refine wpAnyH_take (i := 29) (v := undef) rfl (by kernel_rfl) (by kernel_rfl) (by kernel_rfl) (fun _ _ _ h => h) (Or.inr ⟨by rfl, rfl⟩) hH ?rest85
                        try simp only [Act.put, List.setIfInBounds_toArray, List.set_cons_zero, List.set_cons_succ, List.getElem_toArray, List.getElem_cons_zero, List.getElem_cons_succ]
                        refine wpAnyH_take (i := 30) (v := ?v86) rfl (by kernel_rfl) (by kernel_rfl) (by kernel_rfl) (fun _ _ _ h => h) (Or.inl ⟨by rfl, ?hy86⟩) hH ?rest86
                        case hy86 => (intro w hSw; (try dsimp only at hSw); go_simp; try with_reducible rfl)
                        try simp only [Act.put, List.setIfInBounds_toArray, List.set_cons_zero, List.set_cons_succ, List.getElem_toArray, List.getElem_cons_zero, List.getElem_cons_succ]
                        refine wpAnyH_done (by kernel_rfl) ?_ _
                        clear HP
                        have HB8 := Lib.hid (hB.out.trans (hH.mono hB.out.size))
                        clear HW SB BD hB hH
                        go_wp2
                        go_roundg (l.length - (j + 1))
                        case measure => omega
                        case rel => exact ⟨j + 1, by omega, by go_num, HB8.out⟩
                      · have HP := HDout hyD
                        have HQ := HOin ((HK2.out rfl).resolve_left hyD)
                        clear HK2 HDin HDout HOin hyD
                        go_wp2_with fail
                        refine wp_region_held_drew (S := fun v => Below wr.heap.size wr v) (by kernel_rfl) BD.out (fun hH => ?_)
                        refine wpAnyH_take (i := 0) (v := ?v87) rfl (by kernel_rfl) (by kernel_rfl) (by kernel_rfl) (fun _ _ _ h => h) (Or.inl ⟨by rfl, ?hy87⟩) hH ?rest87
                        case hy87 => (intro w hSw; (try dsimp only at hSw); go_simp; try with_reducible rfl)
                        try simp only [Act.put, List.setIfInBounds_toArray, List.set_cons_zero, List.set_cons_succ, List.getElem_toArray, List.getElem_cons_zero]
                        refine wpAnyH_take (i := 1) (v := ?v88) rfl (by kernel_rfl) (by kernel_rfl) (by kernel_rfl) (fun _ _ _ h => h) (Or.inl ⟨by rfl, ?hy88⟩) hH ?rest88
                        case hy88 => (intro w hSw; (try dsimp only at hSw); go_simp; try with_reducible rfl)
                        try simp only [Act.put, List.setIfInBounds_toArray, List.set_cons_zero, List.set_cons_succ, List.getElem_toArray, List.getElem_cons_zero, List.getElem_cons_succ]
                        refine wpAnyH_take (i := 5) (v := ?v89) rfl (by kernel_rfl) (by kernel_rfl) (by kernel_rfl) (fun _ _ _ h => h) (Or.inl ⟨by rfl, ?hy89⟩) hH ?rest89
                        case hy89 => (intro w hSw; (try dsimp only at hSw); go_simp; try with_reducible rfl)
                        try simp only [Act.put, List.setIfInBounds_toArray, List.set_cons_zero, List.set_cons_succ, List.getElem_toArray, List.getElem_cons_zero, List.getElem_cons_succ]
                        refine wpAnyH_take (i := 6) (v := ?v90) rfl (by kernel_rfl) (by kernel_rfl) (by kernel_rfl) (fun _ _ _ h => h) (Or.inl ⟨by rfl, ?hy90⟩) hH ?rest90
                        case hy90 => (intro w hSw; (try dsimp only at hSw); go_simp; try with_reducible rfl)
                        try simp only [Act.put, List.setIfInBounds_toArray, List.set_cons_zero, List.set_cons_succ, List.getElem_toArray, List.getElem_cons_zero, List.getElem_cons_succ]
                        refine wpAnyH_take (i := 2) (v := ?v91) rfl (by kernel_rfl) (by kernel_rfl) (by kernel_rfl) (fun _ _ _ h => h) (Or.inl ⟨by rfl, ?hy91⟩) hH ?rest91
                        case hy91 => (intro w hSw; (try dsimp only at hSw); go_simp; try with_reducible rfl)
                        try simp only [Act.put, List.setIfInBounds_toArray, List.set_cons_zero, List.set_cons_succ, List.getElem_toArray, List.getElem_cons_zero, List.getElem_cons_succ]
                        refine wpAnyH_take (i := 7) (v := ?v92) rfl (by kernel_rfl) (by kernel_rfl) (by kernel_rfl) (fun _ _ _ h => h) (Or.inl ⟨by rfl, ?hy92⟩) hH ?rest92
                        case hy92 => (intro w hSw; (try dsimp only at hSw); go_simp; try with_reducible rfl)
                        try simp only [Act.put, List.setIfInBounds_toArray, List.set_cons_zero, List.set_cons_succ, List.getElem_toArray, List.getElem_cons_zero, List.getElem_cons_succ]
                        refine wpAnyH_take (i := 3) (v := ?v93) rfl (by kernel_rfl) (by kernel_rfl) (by kernel_rfl) (fun _ _ _ h => h) (Or.inl ⟨by rfl, ?hy93⟩) hH ?rest93
                        case hy93 => (intro w hSw; (try dsimp only at hSw); go_simp; try with_reducible rfl)
                        try simp only [Act.put, List.setIfInBounds_toArray, List.set_cons_zero, List.set_cons_succ, List.getElem_toArray, List.getElem_cons_zero, List.getElem_cons_succ]
                        refine wpAnyH_take (i := 8) (v := ?v94) rfl (by kernel_rfl) (by kernel_rfl) (by kernel_rfl) (fun _ _ _ h => h) (Or.inl ⟨by rfl, ?hy94⟩) hH ?rest94
                        case hy94 => (intro w hSw; (try dsimp only at hSw); go_simp; try with_reducible rfl)
                        try simp only [Act.put, List.setIfInBounds_toArray, List.set_cons_zero, List.set_cons_succ, List.getElem_toArray, List.getElem_cons_zero, List.getElem_cons_succ]
                        refine wpAnyH_take (i := 4) (v := ?v95) rfl (by kernel_rfl) (by kernel_rfl) (by kernel_rfl) (fun _ _ _ h => h) (Or.inl ⟨by rfl, ?hy95⟩) hH ?rest95
                        case hy95 => (intro w hSw; (try dsimp only at hSw); obtain ⟨f0, f1, f2, f3⟩ := SB.out w hSw; go_simp; try with_reducible rfl)
                        try simp only [Act.put, List.setIfInBounds_toArray, List.set_cons_zero, List.set_cons_succ, List.getElem_toArray, List.getElem_cons_zero, List.getElem_cons_succ]
                        refine wpAnyH_take (i := 9) (v := ?v96) rfl (by kernel_rfl) (by kernel_rfl) (by kernel_rfl) (fun _ _ _ h => h) (Or.inl ⟨by rfl, ?hy96⟩) hH ?rest96
                        case hy96 => (intro w hSw; (try dsimp only at hSw); obtain ⟨f0, f1, f2, f3⟩ := SB.out w hSw; go_simp; try with_reducible rfl)
                        try simp only [Act.put, List.setIfInBounds_toArray, List.set_cons_zero, List.set_cons_succ, List.getElem_toArray, List.getElem_cons_zero, List.getElem_cons_succ]
                        refine wpAnyH_ready (rs := [10]) (by kernel_rfl) (by simp) ?_
                        refine AllReadyH.cons rfl (fun K hK => ?_) AllReadyH.nil
                        go_simp
                        go_at_call 20
                        with_reducible refine (HW _ hH).out.mono ?_
                        rintro e wq97 ⟨rfl, bq97⟩
                        go_wp2_with fail
                        refine hK.out _ _ (hH.trans (bq97.mono hH.size)) (fun hH2 => ?_)
                        clear hK K hH
                        have hH := hH2
                        clear hH2
                        try simp only [Act.put, List.setIfInBounds_toArray, List.set_cons_zero, List.set_cons_succ, List.getElem_toArray, List.getElem_cons_zero, List.getElem_cons_succ]
                        refine wpAnyH_take (i := 11) (v := ?v98) rfl (by kernel_rfl) (by kernel_rfl) (by kernel_rfl) (fun _ _ _ h => h) (Or.inl ⟨by rfl, ?hy98⟩) hH ?rest98
                        case hy98 => (intro w hSw; (try dsimp only at hSw); go_simp; try with_reducible rfl)
                        try simp only [Act.put, List.setIfInBounds_toArray, List.set_cons_zero, List.set_cons_succ, List.getElem_toArray, List.getElem_cons_zero, List.getElem_cons_succ]
                        refine wpAnyH_take (i := 12) (v := ?v99) rfl (by kernel_rfl) (by kernel_rfl) (by kernel_rfl) (fun _ _ _ h => h) (Or.inl ⟨by rfl, ?hy99⟩) hH ?rest99
                        case hy99 => (intro w hSw; (try dsimp only at hSw); go_simp; try with_reducible rfl)
                        try simp only [Act.put, List.setIfInBounds_toArray, List.set_cons_zero, List.set_cons_succ, List.getElem_toArray, List.getElem_cons_zero, List.getElem_cons_succ]
                        refine wpAnyH_take (i := 13) (v := ?v100) rfl (by kernel_rfl) (by kernel_rfl) (by kernel_rfl) (fun _ _ _ h => h) (Or.inl ⟨by rfl, ?hy100⟩) hH ?rest100
                        case hy100 => (intro w hSw; (try dsimp only at hSw); go_simp; try with_reducible rfl)
                        try simp only [Act.put, List.setIfInBounds_toArray, List.set_cons_zero, List.set_cons_succ, List.getElem_toArray, List.getElem_cons_zero, List.getElem_cons_succ]
                        refine wpAnyH_take (i := 14) (v := ?v101) rfl (by kernel_rfl) (by kernel_rfl) (by kernel_rfl) (fun _ _ _ h => h) (Or.inl ⟨by rfl, ?hy101⟩) hH ?rest101
                        case hy101 => (intro w hSw; (try dsimp only at hSw); go_simp; try with_reducible rfl)
                        try simp only [Act.put, List.setIfInBounds_toArray, List.set_cons_zero, List.set_cons_succ, List.getElem_toArray, List.getElem_cons_zero, List.getElem_cons_succ]
                        refine wpAnyH_take (i := 15) (v := ?v102) rfl (by kernel_rfl) (by kernel_rfl) (by kernel_rfl) (fun _ _ _ h => h) (Or.inl ⟨by rfl, ?hy102⟩) hH ?rest102
                        case hy102 => (intro w hSw; (try dsimp only at hSw); go_simp; try with_reducible rfl)
                        try simp only [Act.put, List.setIfInBounds_toArray, List.set_cons_zero, List.set_cons_succ, List.getElem_toArray, List.getElem_cons_zero, List.getElem_cons_succ]
                        refine wpAnyH_take (i := 16) (v := ?v103) rfl (by kernel_rfl) (by kernel_rfl) (by kernel_rfl) (fun _ _ _ h => h) (Or.inl ⟨by rfl, ?hy103⟩) hH ?rest103
                        case hy103 => (intro w hSw; (try dsimp only at hSw); go_simp; try with_reducible rfl)
                        try simp only [Act.put, List.setIfInBounds_toArray, List.set_cons_zero, List.set_cons_succ, List.getElem_toArray, List.getElem_cons_zero, List.getElem_cons_succ]
                        refine wpAnyH_take (i := 17) (v := ?v104) rfl (by kernel_rfl) (by kernel_rfl) (by kernel_rfl) (fun _ _ _ h => h) (Or.inl ⟨by rfl, ?hy104⟩) hH ?rest104
                        case hy104 => (intro w hSw; (try dsimp only at hSw); obtain ⟨f0, f1, f2, f3⟩ := SB.out w hSw; go_simp; try with_reducible rfl)
                        try simp only [Act.put, List.setIfInBounds_toArray, List.set_cons_zero, List.set_cons_succ, List.getElem_toArray, List.getElem_cons_zero, List.getElem_cons_succ]
                        refine wpAnyH_ready (rs := [18]) (by kernel_rfl) (by simp) ?_
                        refine AllReadyH.cons rfl (fun K hK => ?_) AllReadyH.nil
                        go_simp
                        go_at_call 18
                        with_reducible refine (HP _ hH).out.mono ?_
                        rintro e wq105 ⟨rfl, bq105⟩
                        go_wp2_with fail
                        refine hK.out _ _ (hH.trans (bq105.mono hH.size)) (fun hH2 => ?_)
                        clear hK K hH
                        have hH := hH2
                        clear hH2
                        try simp only [Act.put, List.setIfInBounds_toArray, List.set_cons_zero, List.set_cons_succ, List.getElem_toArray, List.getElem_cons_zero, List.getElem_cons_succ]
                        refine wpAnyH_take (i := 19) (v := ?v106) rfl (by kernel_rfl) (by kernel_rfl) (by kernel_rfl) (fun _ _ _ h => h) (Or.inl ⟨by rfl, ?hy106⟩) hH ?rest106
                        case hy106 => (intro w hSw; (try dsimp only at hSw); go_simp; try with_reducible rfl)
                        try simp only [Act.put, List.setIfInBounds_toArray, List.set_cons_zero, List.set_cons_succ, List.getElem_toArray, List.getElem_cons_zero, List.getElem_cons_succ]
                        refine wpAnyH_take (i := 20) (v := ?v107) rfl (by kernel_rfl) (by kernel_rfl) (by kernel_rfl) (fun _ _ _ h => h) (Or.inl ⟨by rfl, ?hy107⟩) hH ?rest107
                        case hy107 => (intro w hSw; (try dsimp only at hSw); go_simp; try with_reducible rfl)
                        try simp only [Act.put, List.setIfInBounds_toArray, List.set_cons_zero, List.set_cons_succ, List.getElem_toArray, List.getElem_cons_zero, List.getElem_cons_succ]
                        refine wpAnyH_take (i := 21) (v := ?v108) rfl (by kernel_rfl) (by kernel_rfl) (by kernel_rfl) (fun _ _ _ h => h) (Or.inl ⟨by rfl, ?hy108⟩) hH ?rest108
                        case hy108 => (intro w hSw; (try dsimp only at hSw); go_simp; try with_reducible rfl)
                        try simp only [Act.put, List.setIfInBounds_toArray, List.set_cons_zero, List.set_cons_succ, List.getElem_toArray, List.getElem_cons_zero, List.getElem_cons_succ]
                        refine wpAnyH_take (i := 22) (v := ?v109) rfl (by kernel_rfl) (by kernel_rfl) (by kernel_rfl) (fun _ _ _ h => h) (Or.inl ⟨by rfl, ?hy109⟩) hH ?rest109
                        case hy109 => (intro w hSw; (try dsimp only at hSw); go_simp; try with_reducible rfl)
                        try simp only [Act.put, List.setIfInBounds_toArray, List.set_cons_zero, List.set_cons_succ, List.getElem_toArray, List.getElem_cons_zero, List.getElem_cons_succ]
                        refine wpAnyH_take (i := 23) (v := ?v110) rfl (by kernel_rfl) (by kernel_rfl) (by kernel_rfl) (fun _ _ _ h => h) (Or.inl ⟨by rfl, ?hy110⟩) hH ?rest110
                        case hy110 => (intro w hSw; (try dsimp only at hSw); go_simp; try with_reducible rfl)
                        try simp only [Act.put, List.setIfInBounds_toArray, List.set_cons_zero, List.set_cons_succ, List.getElem_toArray, List.getElem_cons_zero, List.getElem_cons_succ]
                        refine wpAnyH_take (i := 24) (v := ?v111) rfl (by kernel_rfl) (by kernel_rfl) (by kernel_rfl) (fun _ _ _ h => h) (Or.inl ⟨by rfl, ?hy111⟩) hH ?rest111
                        case hy111 => (intro w hSw; (try dsimp only at hSw); go_simp; try with_reducible rfl)
                        try simp only [Act.put, List.setIfInBounds_toArray, List.set_cons_zero, List.set_cons_succ, List.getElem_toArray, List.getElem_cons_zero, List.getElem_cons_succ]
                        refine wpAnyH_take (i := 25) (v := ?v112) rfl (by kernel_rfl) (by kernel_rfl) (by kernel_rfl) (fun _ _ _ h => h) (Or.inl ⟨by rfl, ?hy112⟩) hH ?rest112
                        case hy112 => (intro w hSw; (try dsimp only at hSw); go_simp; try with_reducible rfl)
                        try simp only [Act.put, List.setIfInBounds_toArray, List.set_cons_zero, List.set_cons_succ, List.getElem_toArray, List.getElem_cons_zero, List.getElem_cons_succ]
                        refine wpAnyH_take (i := 26) (v := ?v113) rfl (by kernel_rfl) (by kernel_rfl) (by kernel_rfl) (fun _ _ _ h => h) (Or.inl ⟨by rfl, ?hy113⟩) hH ?rest113
                        case hy113 => (intro w hSw; (try dsimp only at hSw); go_simp; try with_reducible rfl)
                        try simp only [Act.put, List.setIfInBounds_toArray, List.set_cons_zero, List.set_cons_succ, List.getElem_toArray, List.getElem_cons_zero, List.getElem_cons_succ]
                        refine wpAnyH_take (i := 27) (v := ?v114) rfl (by kernel_rfl) (by kernel_rfl) (by kernel_rfl) (fun _ _ _ h => h) (Or.inl ⟨by rfl, ?hy114⟩) hH ?rest114
                        case hy114 => (intro w hSw; (try dsimp only at hSw); obtain ⟨f0, f1, f2, f3⟩ := SB.out w hSw; go_simp; try with_reducible rfl)
                        try simp only [Act.put, List.setIfInBounds_toArray, List.set_cons_zero, List.set_cons_succ, List.getElem_toArray, List.getElem_cons_zero, List.getElem_cons_succ]
                        refine wpAnyH_ready (rs := [28]) (by kernel_rfl) (by simp) ?_
                        refine AllReadyH.cons rfl (fun K hK => ?_) AllReadyH.nil
                        go_simp
                        go_at_call 18
                        with_reducible refine (HQ _ hH).out.mono ?_
                        rintro e wq115 ⟨zn115, rfl, bq115⟩
                        have hzn115 : decide ((zn115 : Int) < 0) = false := decide_eq_false (by omega)
                        go_wp2_with fail
                        refine hK.out _ _ (hH.trans (bq115.mono hH.size)) (fun hH2 => ?_)
                        clear hK K hH
                        have hH := hH2
                        clear hH2
                        try simp only [Act.put, List.setIfInBounds_toArray, List.set_cons_zero, List.set_cons_succ, List.getElem_toArray, List.getElem_cons_zero, List.getElem_cons_succ]
                        refine wpAnyH_take (i := 29) (v := ?v116) rfl (by kernel_rfl) (by kernel_rfl) (by kernel_rfl) (fun _ _ _ h => h) (Or.inl ⟨by rfl, ?hy116⟩) hH ?rest116
                        case hy116 => (intro w hSw; (try dsimp only at hSw); go_simp; try with_reducible rfl)
                        try simp only [Act.put, List.setIfInBounds_toArray, List.set_cons_zero, List.set_cons_succ, List.getElem_toArray, List.getElem_cons_zero, List.getElem_cons_succ]
                        refine wpAnyH_take (i := 30) (v := ?v117) rfl (by kernel_rfl) (by kernel_rfl) (by kernel_rfl) (fun _ _ _ h => h) (Or.inl ⟨by rfl, ?hy117⟩) hH ?rest117
                        case hy117 => (intro w hSw; (try dsimp only at hSw); go_simp; try with_reducible rfl)
                        try simp only [Act.put, List.setIfInBounds_toArray, List.set_cons_zero, List.set_cons_succ, List.getElem_toArray, List.getElem_cons_zero, List.getElem_cons_succ]
                        refine wpAnyH_done (by kernel_rfl) ?_ _
                        clear HP HQ
                        have HB8 := Lib.hid (hB.out.trans (hH.mono hB.out.size))
                        clear HW SB BD hB hH
                        go_wp2
                        go_roundg (l.length - (j + 1))
                        case measure => omega
                        case rel => exact ⟨j + 1, by omega, by go_num, HB8.out⟩
                  · obtain rfl : j = l.length := by omega
                    go_wp2
                    go_roundg (l.length - (k + 1))
                    case measure => omega
                    case rel => exact ⟨k + 1, by omega, by go_num, hB.out⟩
        · obtain rfl : k = l.length := by omega
          have HBX := Lib.hid (HB4.out.trans (hB.out.mono HB4.out.size))
          go_wp2
          go_ret
          exact ⟨rfl, HBX.out⟩
theorem lwaits_any (A : Option Addr) (c : Nat) (l : List No) (hc : l.length ≤ c) (Ad : Option Addr) (cd : Nat) (D : List Is) (hf : Wf l) (hW : Wd D) (w : World) (hs : Nl w w.heap.size A l) (hd : Dl w w.heap.size l) (hi : Il w w.heap.size Ad D) :
    Calls Tryz.prog 4 #[.slice A l.length c, .slice Ad D.length cd] w (UpPost w) := by
  by_cases hfw : fw l = true
  · have h1 := fw_iff.1 hfw
    by_cases hD : D.length ≤ 100
    · exact lwaits_core A c l h1.1 h1.2 hc Ad cd D hD hf hW w hs hd hi
    · have d2 : decide ((100 : Int) < (D.length : Int)) = true := decide_eq_true (by omega)
      have HAw := Lib.hid (awake_any w)
      have HFw := fun W h => Lib.hid (Few_any A c l W h)
      rw [hfw] at HFw
      clear hfw h1 hf hW hd hi
      go_enter Tryz.func4, Tryz.ntmps4
      go_wp2_with fail
      refine HAw.out.mono ?_
      rintro e w1 ⟨rfl, B1⟩
      have HFw1 := HFw w1 (hs.to B1 B1.size)
      go_wp2_with fail
      refine HFw1.out.mono ?_
      rintro e w2 ⟨rfl, rfl⟩
      go_wp2
      go_ret
      exact ⟨rfl, B1⟩
  · have hfw' : fw l = false := by simpa using hfw
    have HAw := Lib.hid (awake_any w)
    have HFw := fun W h => Lib.hid (Few_any A c l W h)
    rw [hfw'] at HFw
    clear hfw hfw' hf hW hd hi
    go_enter Tryz.func4, Tryz.ntmps4
    go_wp2_with fail
    refine HAw.out.mono ?_
    rintro e w1 ⟨rfl, B1⟩
    have HFw1 := HFw w1 (hs.to B1 B1.size)
    go_wp2_with fail
    refine HFw1.out.mono ?_
    rintro e w2 ⟨rfl, rfl⟩
    go_wp2
    go_ret
    exact ⟨rfl, B1⟩
end Go.Proofs.YtgpciipemgljcaaGreat.Od

/-
  Inserting a node into nodes that are sorted, plain; the heads and tails of slices of nodes. No program's function is walked here. No conditions.
-/
namespace Go.Proofs.YtgpciipemgljcaaGreat.Od
open Go.RowKit
set_option linter.unusedVariables false

theorem ls_trans {x y z : No} (h : ls x y = true) (k : ls y z = true) : ls x z = true := by
  rw [ls_iff] at *
  unfold il at *
  omega
/-- Nodes as Less has them, and all of some. -/
structure Sd (o p : List No) : Prop where
  s : o.Pairwise fun x y => ls y x = false
  p : o.Perm p
theorem Sd.nil : Sd [] [] := ⟨List.Pairwise.nil, List.Perm.refl _⟩
theorem Sd.ins {o p : List No} {x : No} {k : Nat} (h : Sd o p) (hk : k ≤ o.length) (hb : ∀ j y, j < k → o[j]? = some y → ls x y = false) (ha : k = o.length ∨ ∃ y, o[k]? = some y ∧ ls x y = true) : Sd (o.take k ++ [x] ++ o.drop k) (p ++ [x]) := by
  have hs : (o.take k ++ o.drop k).Pairwise fun x y => ls y x = false := by rw [List.take_append_drop]; exact h.s
  rw [List.pairwise_append] at hs
  refine ⟨?_, ?_⟩
  · rw [List.append_assoc, List.pairwise_append]
    refine ⟨hs.1, ?_, fun a hA b hB => ?_⟩
    · rw [List.singleton_append, List.pairwise_cons]
      refine ⟨fun b hB => ?_, hs.2.1⟩
      rcases ha with rfl | ⟨y, hy, hl⟩
      · rw [List.drop_length] at hB; cases hB
      · obtain ⟨hk', rfl⟩ := List.getElem?_eq_some_iff.1 hy
        rw [List.drop_eq_getElem_cons hk'] at hB hs
        rcases List.mem_cons.1 hB with rfl | hB
        · exact ls_asym hl
        · have h1 := (List.pairwise_cons.1 hs.2.1).1 b hB
          rcases hbx : ls b x with _ | _
          · rfl
          · rw [ls_trans hbx hl] at h1; cases h1
    · rw [List.singleton_append] at hB
      rcases List.mem_cons.1 hB with rfl | hB
      · obtain ⟨j, hj⟩ := List.getElem?_of_mem hA
        have hjk : j < k := by
          have := (List.getElem?_eq_some_iff.1 hj).1
          simp at this; omega
        rw [List.getElem?_take_of_lt hjk] at hj
        exact hb j a hjk hj
      · exact hs.2.2 a hA b hB
  · have h1 : (o.take k ++ [x] ++ o.drop k).Perm (o.take k ++ o.drop k ++ [x]) := by
      rw [List.append_assoc, List.append_assoc]
      exact List.Perm.append_left _ (List.perm_append_comm)
    rw [List.take_append_drop] at h1
    exact h1.trans (List.Perm.append_right _ h.p)

/-- 's[:k]' and 's[k:]' of nodes. -/
theorem Nl.take {w : World} {B : Nat} {A : Option Addr} {l : List No} (h : Nl w B A l) (n : Nat) : Nl w B A (l.take n) := by
  rcases h with rfl | ⟨b, off, hA, hb, hc⟩
  · exact .inl (by simp)
  · refine .inr ⟨b, off, hA, hb, fun j x hx => hc j x ?_⟩
    rcases Nat.lt_or_ge j n with h | h
    · rwa [List.getElem?_take_of_lt h] at hx
    · rw [List.getElem?_take_eq_none h] at hx; cases hx
theorem Nl.drop {w : World} {B b off : Nat} {l : List No} (h : Nl w B (some ⟨b, off, none⟩) l) (n : Nat) : Nl w B (some ⟨b, off + n * 4, none⟩) (l.drop n) := by
  rcases h with rfl | ⟨b', off', hA, hb, hc⟩
  · exact .inl (by simp)
  · simp only [Option.some.injEq, Addr.mk.injEq, and_true] at hA
    obtain ⟨rfl, rfl⟩ := hA
    refine .inr ⟨b, _, rfl, hb, fun j x hx => ?_⟩
    rw [List.getElem?_drop] at hx
    have := hc _ _ hx
    rw [show off + n * 4 + j * 4 = off + (n + j) * 4 by omega]
    exact this
theorem head_runN {w : World} {B : Nat} {A : Option Addr} {l : List No} (h : Nl w B A l) (c k : Nat) (hk : k ≤ l.length) (hc : l.length ≤ c) :
    ∃ A', (∀ W, (Instr.sliceAt 22 (.slice A l.length c) none (some (.int .i64 (k : Int))) none).run Tryz.prog W = .ok (.slice A' (l.take k).length c) W) ∧
      (∀ W, (Instr.slice 22 (.slice A l.length c) none (some (.int .i64 (k : Int))) none).run Tryz.prog W = .ok (.slice A' (l.take k).length c) W) ∧ Nl w B A' (l.take k) := by
  have eu : Tryz.prog.underlying 22 = some (.slice (Tryz.prog.elem 22)) := by kernel_rfl
  have h2 : ∀ W, (Instr.slice 22 (.slice A l.length c) none (some (.int .i64 (k : Int))) none).run Tryz.prog W = .ok (.slice (if c = 0 then A else A.map (·.add (0 * 4))) (l.take k).length c) W := fun W => by
    rw [run_slice_h W 22 A l.length c eu .i64 k (by omega) (by omega), elem_size22]
    simp [sliced]
    omega
  refine ⟨if c = 0 then A else A.map (·.add (0 * 4)), fun W => by rw [run_sliceAt_slice W 22 _ _ _ _ eu]; exact h2 W, h2, ?_⟩
  rcases h with rfl | ⟨b, off, rfl, hb, hcc⟩
  · simp; exact .nil
  · have h3 : Nl w B (some ⟨b, off, none⟩) l := .inr ⟨b, off, rfl, hb, hcc⟩
    have e : (if c = 0 then (some ⟨b, off, none⟩ : Option Addr) else (some ⟨b, off, none⟩ : Option Addr).map (·.add (0 * 4))) = some ⟨b, off, none⟩ := by
      split <;> simp [Addr.add]
    rw [e]
    exact h3.take k
theorem tail_runN {w : World} {B : Nat} {A : Option Addr} {l : List No} (h : Nl w B A l) (c k : Nat) (hk : k ≤ l.length) (hc : l.length ≤ c) :
    ∃ A', (∀ W, (Instr.sliceAt 22 (.slice A l.length c) (some (.int .i64 (k : Int))) none none).run Tryz.prog W = .ok (.slice A' (l.drop k).length (c - k)) W) ∧
      (∀ W, (Instr.slice 22 (.slice A l.length c) (some (.int .i64 (k : Int))) none none).run Tryz.prog W = .ok (.slice A' (l.drop k).length (c - k)) W) ∧ Nl w B A' (l.drop k) := by
  have eu : Tryz.prog.underlying 22 = some (.slice (Tryz.prog.elem 22)) := by kernel_rfl
  have h2 : ∀ W, (Instr.slice 22 (.slice A l.length c) (some (.int .i64 (k : Int))) none none).run Tryz.prog W = .ok (.slice (if c = k then A else A.map (·.add (k * 4))) (l.drop k).length (c - k)) W := fun W => by
    rw [run_slice_l W 22 A l.length c eu .i64 k (by omega) (by omega), elem_size22]
    simp [sliced]
  refine ⟨if c = k then A else A.map (·.add (k * 4)), fun W => by rw [run_sliceAt_slice W 22 _ _ _ _ eu]; exact h2 W, h2, ?_⟩
  by_cases e : c = k
  · have : l.drop k = [] := List.drop_eq_nil_of_le (by omega)
    rw [this]; exact .nil
  · rw [if_neg e]
    rcases h with rfl | ⟨b, off, rfl, hb, hcc⟩
    · simp; exact .nil
    · have h3 : Nl w B (some ⟨b, off, none⟩) l := .inr ⟨b, off, rfl, hb, hcc⟩
      simp only [Option.map_some, Addr.add_lit]
      exact h3.drop k
end Go.Proofs.YtgpciipemgljcaaGreat.Od

/-
  The walk of the law OrderBehind. No conditions but what can be read.
-/
namespace Go.Proofs.YtgpciipemgljcaaGreat.Od
open Go.RowKit
open Go.Proofs.YtgpciipemgljcaaGreat.Gp (Es eg2 eg2_append eg2_len own_es info46 rz cz zs mem_zs mem_clo Rt)
set_option linter.unusedVariables false
attribute [local go_sem ↓ high] eq25 guard25 neq25 guard25n

theorem rz_iff {l : List No} (hl : l.length ≤ 100) {a b : Nat} (ha : a < l.length) (hb : b < l.length) : rz (l.length : Int) (ee l) (b : Int) (a : Int) = true ↔ Rt (Wg l) b a := by
  unfold Gp.rz
  rw [decide_eq_true_iff, cz_eq hl hb, mem_zs, mem_clo]
  exact ⟨fun h => h.2, fun h => ⟨ha, h⟩⟩

set_option maxRecDepth 100000 in
set_option maxHeartbeats 4000000 in
theorem lbehind_core (A : Option Addr) (c : Nat) (l : List No) (hl : l.length ≤ 30) (h7 : F7 l) (hc : l.length ≤ c) (hf : Wf l) (w : World) (hs : Nl w w.heap.size A l) (hd : Dl w w.heap.size l) :
    Calls Tryz.prog 7 #[.slice A l.length c] w (UpPost w) := by
  obtain ⟨i0, hi, hz0, hz1, hz2⟩ := info_parts info46
  have HAw := Lib.hid (awake_any w)
  have HFw := fun W h => Lib.hid (Few_any A c l W h)
  have hfw : fw l = true := fw_iff.2 ⟨hl, h7⟩
  rw [hfw] at HFw
  have HRl : ∀ W, Below w.heap.size w W → Hid (Calls Tryz.prog 12 #[.slice A l.length c, .slice none 0 0] W (RdPost W (rd (cs l []) []))) := fun W hB =>
    Ready_any A c l (by omega) hc none 0 [] (by simp) hf (fun _ h => by cases h) h7 (Nat.le_trans (cs_len l []) hl) W (hs.to hB hB.size) (hd.to hB hB.size) .nil
  have HS := Lib.hid hs
  have HD0 := Lib.hid hd
  have HF := Lib.hid hf
  have HRi := Lib.hid (rd_ri l [])
  have H7 := Lib.hid h7
  clear hs hd hf h7 hfw
  go_enter Tryz.func7, Tryz.ntmps7
  go_wp2_with fail
  refine HAw.out.mono ?_
  rintro e w1 ⟨rfl, B1⟩
  have HFw1 := HFw w1 (HS.out.to B1 B1.size)
  go_wp2_with fail
  refine HFw1.out.mono ?_
  rintro e w2 ⟨rfl, rfl⟩
  have HB1 := Lib.hid B1
  clear HAw HFw HFw1 B1
  go_wp2
  go_loopg [5, 6] l.length (fun q v t W => ∃ k : Nat, k + q = l.length ∧ t = .int .i64 (k : Int) ∧ Hid (W.ownsRow w2.heap.size 46 2 v (ek l k).length (eg2 (ek l k))) ∧ Hid (Below w2.heap.size w2 W) ∧ Hid (∀ (a b : Nat) (x y : No), a < k → a ≠ b → l[a]? = some x → l[b]? = some y → x.i ≠ y.i))
  case atStart => exact ⟨0, by omega, rfl, World.ownsRow_nil _ _ _ _, Below.refl _ _, fun a b x y h => by omega⟩
  case round =>
    obtain ⟨k, hk, rfl, hown, hB, hDi⟩ := hrel
    by_cases hlt : k < l.length
    · have hki : (k : Int) < (l.length : Int) := by omega
      have hk0 : (0 : Int) ≤ (k : Int) := by omega
      have HX := Lib.hid (List.getElem?_eq_getElem hlt)
      have HDX := Lib.hid (HD0.out _ (List.getElem_mem hlt))
      generalize l[k] = x at *
      go_wp2
      go_loopg [5, 7] l.length (fun q v t W => ∃ j : Nat, j + q = l.length ∧ t = .int .i64 (j : Int) ∧ Hid (W.ownsRow w2.heap.size 46 2 v (ek l k ++ er l k j).length (eg2 (ek l k ++ er l k j))) ∧ Hid (Below w2.heap.size w2 W) ∧ Hid (∀ (b : Nat) (y : No), b < j → k ≠ b → l[b]? = some y → x.i ≠ y.i))
      case atStart => exact ⟨0, by omega, rfl, by rw [er_zero, List.append_nil]; exact hown.out, hB.out, fun b y h => by omega⟩
      case round =>
        clear hown hB
        obtain ⟨j, hj, rfl, hown, hB, hne⟩ := hrel
        by_cases hjt : j < l.length
        · have hji : (j : Int) < (l.length : Int) := by omega
          have hj0 : (0 : Int) ≤ (j : Int) := by omega
          have HY := Lib.hid (List.getElem?_eq_getElem hjt)
          have hmemy := List.getElem_mem hjt
          have hsz := hB.out.size
          have HBw := Lib.hid (HB1.out.trans (hB.out.mono HB1.out.size))
          have hNl := HS.out.to HBw.out HBw.out.size
          obtain ⟨b, off, rfl, hbl, p0, p1, p2, p3⟩ := hNl.at_ HX.out
          obtain ⟨b2, off2, e2, hb2, r0, r1, r2, r3⟩ := hNl.at_ HY.out
          cases e2
          have HFY := Lib.hid ((HF.out _ hmemy).1.1.2)
          generalize l[j] = y at *
          have HW : Hid (wb l k j = At.wt x.d y.b y.s) := wb_at HX.out HY.out
          have HC : ∀ V, Below wr.heap.size wr V → Hid (Calls Tryz.prog 20 #[.agg #[.int .i64 x.q, .slice x.h x.d.length x.c], .agg #[.int .i64 y.b, .int .i64 y.s]] V (At.BoolPost V (At.wt x.d y.b y.s))) := fun V hV => At.waits_any x.q y.b y.s x.h x.c x.d V ((HDX.out.to HBw.out HBw.out.size).to hV hV.size) HFY.out
          clear HFY hNl
          by_cases hret : k ≠ j ∧ (x.b, x.s) = (y.b, y.s)
          · have hq := same_yes hret.2
            have hkj := hret.1
            have n1 : ((k : Int) != (j : Int)) = true := by simp; omega
            have n2 : (k != j) = true := by simp; omega
            have n3 : ((k : Int) == (j : Int)) = false := by simp; omega
            have n4 : (k == j) = false := by simp; omega
            have n5 : decide (k = j) = false := decide_eq_false hkj
            clear hret hkj
            go_wp2_with fail
            go_quiet (fail)
            go_wp2
            go_ret
            exact ⟨rfl, Gp.below_drewN HBw.out _⟩
          · have HN2 : Hid (∀ (b : Nat) (z : No), b < j + 1 → k ≠ b → l[b]? = some z → x.i ≠ z.i) := fun b z hb hn hz => by
              rcases Nat.lt_or_ge b j with h | h
              · exact hne.out b z h hn hz
              · obtain rfl : b = j := by omega
                rw [HY.out] at hz
                cases hz
                exact fun e => hret ⟨hn, e⟩
            by_cases hkj : k = j
            · subst hkj
              rw [HX.out] at HY
              have hxy := Option.some.inj HY.out
              subst hxy
              clear hret hne
              go_wp2_with fail
              go_quiet (fail)
              rename_i nq
              have BQ : Below wr.heap.size wr (wr.drewN nq) := Gp.below_drewN (Below.refl _ _) _
              have HB3 := Lib.hid (hB.out.trans (BQ.mono hsz))
              have H9 := Lib.hid (ownk hown.out BQ)
              have HC3 : ∀ V, Below (wr.drewN nq).heap.size (wr.drewN nq) V → Hid (Calls Tryz.prog 20 #[.agg #[.int .i64 x.q, .slice x.h x.d.length x.c], .agg #[.int .i64 x.b, .int .i64 x.s]] V (At.BoolPost V (At.wt x.d x.b x.s))) := fun V hV => HC V (BQ.trans (hV.mono BQ.size))
              have hbl3 : b < (wr.drewN nq).heap.size := Nat.lt_of_lt_of_le hbl BQ.size
              have hc3 : ∀ i, (wr.drewN nq).cell? ⟨b, i, none⟩ = wr.cell? ⟨b, i, none⟩ := fun i => World.cell?_of_block (BQ.block b hbl)
              have s0 := (hc3 _).trans p2
              have s1 := (hc3 _).trans p3
              have s2 := (hc3 _).trans p0
              have s3 := (hc3 _).trans p1
              have hsz3 : w2.heap.size ≤ (wr.drewN nq).heap.size := HB3.out.size
              clear HC hc3 BQ hown hB hbl p0 p1 p2 p3 r0 r1 r2 r3
              generalize wr.drewN nq = wq at *
              obtain ⟨xb, xs, xq, xd, xh, xc⟩ := x
              simp only at *
              generalize At.wt xd xb xs = r at *
              have SB : Hid (∀ v, Below wq.heap.size wq v → v.cell? ⟨b, off + k * 4 + 2, none⟩ = some (.int .i64 xq) ∧ v.cell? ⟨b, off + k * 4 + 3, none⟩ = some (.slice xh xd.length xc) ∧ v.cell? ⟨b, off + k * 4, none⟩ = some (.int .i64 xb) ∧ v.cell? ⟨b, off + k * 4 + 1, none⟩ = some (.int .i64 xs)) := Lib.hid (fun v g => ⟨(World.cell?_of_block (g.block _ hbl3)).trans s0, (World.cell?_of_block (g.block _ hbl3)).trans s1, (World.cell?_of_block (g.block _ hbl3)).trans s2, (World.cell?_of_block (g.block _ hbl3)).trans s3⟩)
              have BD : Hid (Below wq.heap.size wq wq.drew) := (Below.refl _ _).drew
              clear s0 s1 s2 s3
              go_wp2_with fail
              refine wp_region_held_drew (S := fun v => Below wq.heap.size wq v) (by kernel_rfl) BD.out (fun hH => ?_)
              refine wpAnyH_take (i := 0) (v := ?v1) rfl (by kernel_rfl) (by kernel_rfl) (by kernel_rfl) (fun _ _ _ h => h) (Or.inl ⟨by rfl, ?hy1⟩) hH ?rest1
              case hy1 => (intro w hSw; (try dsimp only at hSw); go_simp; try with_reducible rfl)
              try simp only [Act.put, List.setIfInBounds_toArray, List.set_cons_zero, List.set_cons_succ, List.getElem_toArray, List.getElem_cons_zero]
              refine wpAnyH_take (i := 1) (v := ?v2) rfl (by kernel_rfl) (by kernel_rfl) (by kernel_rfl) (fun _ _ _ h => h) (Or.inl ⟨by rfl, ?hy2⟩) hH ?rest2
              case hy2 => (intro w hSw; (try dsimp only at hSw); go_simp; try with_reducible rfl)
              try simp only [Act.put, List.setIfInBounds_toArray, List.set_cons_zero, List.set_cons_succ, List.getElem_toArray, List.getElem_cons_zero, List.getElem_cons_succ]
              refine wpAnyH_take (i := 5) (v := ?v3) rfl (by kernel_rfl) (by kernel_rfl) (by kernel_rfl) (fun _ _ _ h => h) (Or.inl ⟨by rfl, ?hy3⟩) hH ?rest3
              case hy3 => (intro w hSw; (try dsimp only at hSw); go_simp; try with_reducible rfl)
              try simp only [Act.put, List.setIfInBounds_toArray, List.set_cons_zero, List.set_cons_succ, List.getElem_toArray, List.getElem_cons_zero, List.getElem_cons_succ]
              refine wpAnyH_take (i := 6) (v := ?v4) rfl (by kernel_rfl) (by kernel_rfl) (by kernel_rfl) (fun _ _ _ h => h) (Or.inl ⟨by rfl, ?hy4⟩) hH ?rest4
              case hy4 => (intro w hSw; (try dsimp only at hSw); go_simp; try with_reducible rfl)
              try simp only [Act.put, List.setIfInBounds_toArray, List.set_cons_zero, List.set_cons_succ, List.getElem_toArray, List.getElem_cons_zero, List.getElem_cons_succ]
              refine wpAnyH_take (i := 2) (v := ?v5) rfl (by kernel_rfl) (by kernel_rfl) (by kernel_rfl) (fun _ _ _ h => h) (Or.inl ⟨by rfl, ?hy5⟩) hH ?rest5
              case hy5 => (intro w hSw; (try dsimp only at hSw); go_simp; try with_reducible rfl)
              try simp only [Act.put, List.setIfInBounds_toArray, List.set_cons_zero, List.set_cons_succ, List.getElem_toArray, List.getElem_cons_zero, List.getElem_cons_succ]
              refine wpAnyH_take (i := 7) (v := ?v6) rfl (by kernel_rfl) (by kernel_rfl) (by kernel_rfl) (fun _ _ _ h => h) (Or.inl ⟨by rfl, ?hy6⟩) hH ?rest6
              case hy6 => (intro w hSw; (try dsimp only at hSw); go_simp; try with_reducible rfl)
              try simp only [Act.put, List.setIfInBounds_toArray, List.set_cons_zero, List.set_cons_succ, List.getElem_toArray, List.getElem_cons_zero, List.getElem_cons_succ]
              refine wpAnyH_take (i := 3) (v := ?v7) rfl (by kernel_rfl) (by kernel_rfl) (by kernel_rfl) (fun _ _ _ h => h) (Or.inl ⟨by rfl, ?hy7⟩) hH ?rest7
              case hy7 => (intro w hSw; (try dsimp only at hSw); go_simp; try with_reducible rfl)
              try simp only [Act.put, List.setIfInBounds_toArray, List.set_cons_zero, List.set_cons_succ, List.getElem_toArray, List.getElem_cons_zero, List.getElem_cons_succ]
              refine wpAnyH_take (i := 8) (v := ?v8) rfl (by kernel_rfl) (by kernel_rfl) (by kernel_rfl) (fun _ _ _ h => h) (Or.inl ⟨by rfl, ?hy8⟩) hH ?rest8
              case hy8 => (intro w hSw; (try dsimp only at hSw); go_simp; try with_reducible rfl)
              try simp only [Act.put, List.setIfInBounds_toArray, List.set_cons_zero, List.set_cons_succ, List.getElem_toArray, List.getElem_cons_zero, List.getElem_cons_succ]
              refine wpAnyH_take (i := 4) (v := ?v9) rfl (by kernel_rfl) (by kernel_rfl) (by kernel_rfl) (fun _ _ _ h => h) (Or.inl ⟨by rfl, ?hy9⟩) hH ?rest9
              case hy9 => (intro w hSw; (try dsimp only at hSw); obtain ⟨f0, f1, f2, f3⟩ := SB.out w hSw; go_simp; try with_reducible rfl)
              try simp only [Act.put, List.setIfInBounds_toArray, List.set_cons_zero, List.set_cons_succ, List.getElem_toArray, List.getElem_cons_zero, List.getElem_cons_succ]
              refine wpAnyH_take (i := 9) (v := ?v10) rfl (by kernel_rfl) (by kernel_rfl) (by kernel_rfl) (fun _ _ _ h => h) (Or.inl ⟨by rfl, ?hy10⟩) hH ?rest10
              case hy10 => (intro w hSw; (try dsimp only at hSw); obtain ⟨f0, f1, f2, f3⟩ := SB.out w hSw; go_simp; try with_reducible rfl)
              try simp only [Act.put, List.setIfInBounds_toArray, List.set_cons_zero, List.set_cons_succ, List.getElem_toArray, List.getElem_cons_zero, List.getElem_cons_succ]
              refine wpAnyH_ready (rs := [10]) (by kernel_rfl) (by simp) ?_
              refine AllReadyH.cons rfl (fun K hK => ?_) AllReadyH.nil
              go_simp
              go_at_call 20
              with_reducible refine (HC3 _ hH).out.mono ?_
              rintro e wq11 ⟨rfl, bq11⟩
              go_wp2_with fail
              refine hK.out _ _ (hH.trans (bq11.mono hH.size)) (fun hH2 => ?_)
              clear hK K hH
              have hH := hH2
              clear hH2
              try simp only [Act.put, List.setIfInBounds_toArray, List.set_cons_zero, List.set_cons_succ, List.getElem_toArray, List.getElem_cons_zero, List.getElem_cons_succ]
              refine wpAnyH_done (by kernel_rfl) ?_ _
              have HB5 := Lib.hid (HB3.out.trans (hH.mono hsz3))
              have H9b := Lib.hid (ownk H9.out hH)
              clear HC3 SB BD H9 HB3 hH
              rcases r with _ | _
              · have HE := Lib.hid (er_no HW.out)
                go_wp2
                go_roundg (l.length - (k + 1))
                case measure => omega
                case rel => exact ⟨k + 1, by omega, by go_num, by rw [HE.out]; exact H9b.out, HB5.out, HN2.out⟩
              · have HE := Lib.hid (er_yes HW.out)
                have H10 := Lib.hid (H9b.out.alloc (.cells #[.int .i64 (k : Int), .int .i64 (k : Int)] 46))
                have HB6 := Lib.hid (HB5.out.alloc HB5.out.size (.cells #[.int .i64 (k : Int), .int .i64 (k : Int)] 46))
                have hsz5 := HB5.out.size
                have hek := ek_len l k
                have her := er_len l k k
                have hkl : k * l.length ≤ 100 * 100 := Nat.mul_le_mul (by omega) (by omega)
                have hel : (ek l k ++ er l k k).length ≤ 11000 := by rw [List.length_append]; omega
                clear H9b HB5 hek her hkl
                go_wp2_with (at_builtin; refine wpList_append_own_at _ rfl _ _ 44 rfl w2.heap.size 46 i0 (.agg #[.int .i64 0, .int .i64 0]) 2 16 Tryz.underlying44 hi hz0 hz1 hz2 rfl (by decide) _ (ek l k ++ er l k k).length (eg2 (ek l k ++ er l k k)) rfl H10.out ⟨wq11.heap.size, 0, none⟩ 1 1 [.int .i64 (k : Int), .int .i64 (k : Int)] rfl rfl (cell_two_new _ _ _ _) (by simp [Value.oneCell']) (by unfold maxLen; omega) (by omega) (by simp; omega) ?_; intro v' w7 hown7 hgrow7 hx7 hat7)
                have HB7 := Lib.hid (HB6.out.grown hgrow7 HB6.out.size (fun r hr => (H10.out.lt r hr).1))
                have H11 : Hid (w7.ownsRow w2.heap.size 46 2 v' (ek l k ++ er l k (k + 1)).length (eg2 (ek l k ++ er l k (k + 1)))) := by
                  show World.ownsRow _ _ _ _ _ _ _
                  rw [HE.out, ← List.append_assoc, List.length_append, eg2_append]
                  exact hown7
                clear hown7 hgrow7 H10 HB6 hx7 hat7
                go_wp2
                go_roundg (l.length - (k + 1))
                case measure => omega
                case rel => exact ⟨k + 1, by omega, by go_num, H11.out, HB7.out, HN2.out⟩
            · have hq := same_no (fun e => hret ⟨hkj, e⟩)
              have n1 : ((k : Int) != (j : Int)) = true := by simp; omega
              have n2 : (k != j) = true := by simp; omega
              have n3 : ((k : Int) == (j : Int)) = false := by simp; omega
              have n4 : (k == j) = false := by simp; omega
              have n5 : decide (k = j) = false := decide_eq_false hkj
              clear hret hkj hne
              go_wp2_with fail
              go_quiet (fail)
              clear n1 n2 n3 n4 n5 hq
              rename_i nq
              have BQ : Below wr.heap.size wr (wr.drewN nq) := Gp.below_drewN (Below.refl _ _) _
              have HB3 := Lib.hid (hB.out.trans (BQ.mono hsz))
              have H9 := Lib.hid (ownk hown.out BQ)
              have HC3 : ∀ V, Below (wr.drewN nq).heap.size (wr.drewN nq) V → Hid (Calls Tryz.prog 20 #[.agg #[.int .i64 x.q, .slice x.h x.d.length x.c], .agg #[.int .i64 y.b, .int .i64 y.s]] V (At.BoolPost V (At.wt x.d y.b y.s))) := fun V hV => HC V (BQ.trans (hV.mono BQ.size))
              have hbl3 : b < (wr.drewN nq).heap.size := Nat.lt_of_lt_of_le hbl BQ.size
              have hc3 : ∀ i, (wr.drewN nq).cell? ⟨b, i, none⟩ = wr.cell? ⟨b, i, none⟩ := fun i => World.cell?_of_block (BQ.block b hbl)
              have s0 := (hc3 _).trans p2
              have s1 := (hc3 _).trans p3
              have s2 := (hc3 _).trans r0
              have s3 := (hc3 _).trans r1
              have hsz3 : w2.heap.size ≤ (wr.drewN nq).heap.size := HB3.out.size
              clear HC hc3 BQ hown hB hbl p0 p1 p2 p3 r0 r1 r2 r3
              generalize wr.drewN nq = wq at *
              obtain ⟨xb, xs, xq, xd, xh, xc⟩ := x
              obtain ⟨yb, ys, yq, yd, yh, yc⟩ := y
              simp only at *
              generalize At.wt xd yb ys = r at *
              have SB : Hid (∀ v, Below wq.heap.size wq v → v.cell? ⟨b, off + k * 4 + 2, none⟩ = some (.int .i64 xq) ∧ v.cell? ⟨b, off + k * 4 + 3, none⟩ = some (.slice xh xd.length xc) ∧ v.cell? ⟨b, off + j * 4, none⟩ = some (.int .i64 yb) ∧ v.cell? ⟨b, off + j * 4 + 1, none⟩ = some (.int .i64 ys)) := Lib.hid (fun v g => ⟨(World.cell?_of_block (g.block _ hbl3)).trans s0, (World.cell?_of_block (g.block _ hbl3)).trans s1, (World.cell?_of_block (g.block _ hbl3)).trans s2, (World.cell?_of_block (g.block _ hbl3)).trans s3⟩)
              have BD : Hid (Below wq.heap.size wq wq.drew) := (Below.refl _ _).drew
              clear s0 s1 s2 s3
              go_wp2_with fail
              refine wp_region_held_drew (S := fun v => Below wq.heap.size wq v) (by kernel_rfl) BD.out (fun hH => ?_)
              refine wpAnyH_take (i := 0) (v := ?v12) rfl (by kernel_rfl) (by kernel_rfl) (by kernel_rfl) (fun _ _ _ h => h) (Or.inl ⟨by rfl, ?hy12⟩) hH ?rest12
              case hy12 => (intro w hSw; (try dsimp only at hSw); go_simp; try with_reducible rfl)
              try simp only [Act.put, List.setIfInBounds_toArray, List.set_cons_zero, List.set_cons_succ, List.getElem_toArray, List.getElem_cons_zero]
              refine wpAnyH_take (i := 1) (v := ?v13) rfl (by kernel_rfl) (by kernel_rfl) (by kernel_rfl) (fun _ _ _ h => h) (Or.inl ⟨by rfl, ?hy13⟩) hH ?rest13
              case hy13 => (intro w hSw; (try dsimp only at hSw); go_simp; try with_reducible rfl)
              try simp only [Act.put, List.setIfInBounds_toArray, List.set_cons_zero, List.set_cons_succ, List.getElem_toArray, List.getElem_cons_zero, List.getElem_cons_succ]
              refine wpAnyH_take (i := 5) (v := ?v14) rfl (by kernel_rfl) (by kernel_rfl) (by kernel_rfl) (fun _ _ _ h => h) (Or.inl ⟨by rfl, ?hy14⟩) hH ?rest14
              case hy14 => (intro w hSw; (try dsimp only at hSw); go_simp; try with_reducible rfl)
              try simp only [Act.put, List.setIfInBounds_toArray, List.set_cons_zero, List.set_cons_succ, List.getElem_toArray, List.getElem_cons_zero, List.getElem_cons_succ]
              refine wpAnyH_take (i := 6) (v := ?v15) rfl (by kernel_rfl) (by kernel_rfl) (by kernel_rfl) (fun _ _ _ h => h) (Or.inl ⟨by rfl, ?hy15⟩) hH ?rest15
              case hy15 => (intro w hSw; (try dsimp only at hSw); go_simp; try with_reducible rfl)
              try simp only [Act.put, List.setIfInBounds_toArray, List.set_cons_zero, List.set_cons_succ, List.getElem_toArray, List.getElem_cons_zero, List.getElem_cons_succ]
              refine wpAnyH_take (i := 2) (v := ?v16) rfl (by kernel_rfl) (by kernel_rfl) (by kernel_rfl) (fun _ _ _ h => h) (Or.inl ⟨by rfl, ?hy16⟩) hH ?rest16
              case hy16 => (intro w hSw; (try dsimp only at hSw); go_simp; try with_reducible rfl)
              try simp only [Act.put, List.setIfInBounds_toArray, List.set_cons_zero, List.set_cons_succ, List.getElem_toArray, List.getElem_cons_zero, List.getElem_cons_succ]
              refine wpAnyH_take (i := 7) (v := ?v17) rfl (by kernel_rfl) (by kernel_rfl) (by kernel_rfl) (fun _ _ _ h => h) (Or.inl ⟨by rfl, ?hy17⟩) hH ?rest17
              case hy17 => (intro w hSw; (try dsimp only at hSw); go_simp; try with_reducible rfl)
              try simp only [Act.put, List.setIfInBounds_toArray, List.set_cons_zero, List.set_cons_succ, List.getElem_toArray, List.getElem_cons_zero, List.getElem_cons_succ]
              refine wpAnyH_take (i := 3) (v := ?v18) rfl (by kernel_rfl) (by kernel_rfl) (by kernel_rfl) (fun _ _ _ h => h) (Or.inl ⟨by rfl, ?hy18⟩) hH ?rest18
              case hy18 => (intro w hSw; (try dsimp only at hSw); go_simp; try with_reducible rfl)
              try simp only [Act.put, List.setIfInBounds_toArray, List.set_cons_zero, List.set_cons_succ, List.getElem_toArray, List.getElem_cons_zero, List.getElem_cons_succ]
              refine wpAnyH_take (i := 8) (v := ?v19) rfl (by kernel_rfl) (by kernel_rfl) (by kernel_rfl) (fun _ _ _ h => h) (Or.inl ⟨by rfl, ?hy19⟩) hH ?rest19
              case hy19 => (intro w hSw; (try dsimp only at hSw); go_simp; try with_reducible rfl)
              try simp only [Act.put, List.setIfInBounds_toArray, List.set_cons_zero, List.set_cons_succ, List.getElem_toArray, List.getElem_cons_zero, List.getElem_cons_succ]
              refine wpAnyH_take (i := 4) (v := ?v20) rfl (by kernel_rfl) (by kernel_rfl) (by kernel_rfl) (fun _ _ _ h => h) (Or.inl ⟨by rfl, ?hy20⟩) hH ?rest20
              case hy20 => (intro w hSw; (try dsimp only at hSw); obtain ⟨f0, f1, f2, f3⟩ := SB.out w hSw; go_simp; try with_reducible rfl)
              try simp only [Act.put, List.setIfInBounds_toArray, List.set_cons_zero, List.set_cons_succ, List.getElem_toArray, List.getElem_cons_zero, List.getElem_cons_succ]
              refine wpAnyH_take (i := 9) (v := ?v21) rfl (by kernel_rfl) (by kernel_rfl) (by kernel_rfl) (fun _ _ _ h => h) (Or.inl ⟨by rfl, ?hy21⟩) hH ?rest21
              case hy21 => (intro w hSw; (try dsimp only at hSw); obtain ⟨f0, f1, f2, f3⟩ := SB.out w hSw; go_simp; try with_reducible rfl)
              try simp only [Act.put, List.setIfInBounds_toArray, List.set_cons_zero, List.set_cons_succ, List.getElem_toArray, List.getElem_cons_zero, List.getElem_cons_succ]
              refine wpAnyH_ready (rs := [10]) (by kernel_rfl) (by simp) ?_
              refine AllReadyH.cons rfl (fun K hK => ?_) AllReadyH.nil
              go_simp
              go_at_call 20
              with_reducible refine (HC3 _ hH).out.mono ?_
              rintro e wq22 ⟨rfl, bq22⟩
              go_wp2_with fail
              refine hK.out _ _ (hH.trans (bq22.mono hH.size)) (fun hH2 => ?_)
              clear hK K hH
              have hH := hH2
              clear hH2
              try simp only [Act.put, List.setIfInBounds_toArray, List.set_cons_zero, List.set_cons_succ, List.getElem_toArray, List.getElem_cons_zero, List.getElem_cons_succ]
              refine wpAnyH_done (by kernel_rfl) ?_ _
              have HB5 := Lib.hid (HB3.out.trans (hH.mono hsz3))
              have H9b := Lib.hid (ownk H9.out hH)
              clear HC3 SB BD H9 HB3 hH
              rcases r with _ | _
              · have HE := Lib.hid (er_no HW.out)
                go_wp2
                go_roundg (l.length - (j + 1))
                case measure => omega
                case rel => exact ⟨j + 1, by omega, by go_num, by rw [HE.out]; exact H9b.out, HB5.out, HN2.out⟩
              · have HE := Lib.hid (er_yes HW.out)
                have H10 := Lib.hid (H9b.out.alloc (.cells #[.int .i64 (k : Int), .int .i64 (j : Int)] 46))
                have HB6 := Lib.hid (HB5.out.alloc HB5.out.size (.cells #[.int .i64 (k : Int), .int .i64 (j : Int)] 46))
                have hsz5 := HB5.out.size
                have hek := ek_len l k
                have her := er_len l k j
                have hkl : k * l.length ≤ 100 * 100 := Nat.mul_le_mul (by omega) (by omega)
                have hel : (ek l k ++ er l k j).length ≤ 11000 := by rw [List.length_append]; omega
                clear H9b HB5 hek her hkl
                go_wp2_with (at_builtin; refine wpList_append_own_at _ rfl _ _ 44 rfl w2.heap.size 46 i0 (.agg #[.int .i64 0, .int .i64 0]) 2 16 Tryz.underlying44 hi hz0 hz1 hz2 rfl (by decide) _ (ek l k ++ er l k j).length (eg2 (ek l k ++ er l k j)) rfl H10.out ⟨wq22.heap.size, 0, none⟩ 1 1 [.int .i64 (k : Int), .int .i64 (j : Int)] rfl rfl (cell_two_new _ _ _ _) (by simp [Value.oneCell']) (by unfold maxLen; omega) (by omega) (by simp; omega) ?_; intro v' w7 hown7 hgrow7 hx7 hat7)
                have HB7 := Lib.hid (HB6.out.grown hgrow7 HB6.out.size (fun r hr => (H10.out.lt r hr).1))
                have H11 : Hid (w7.ownsRow w2.heap.size 46 2 v' (ek l k ++ er l k (j + 1)).length (eg2 (ek l k ++ er l k (j + 1)))) := by
                  show World.ownsRow _ _ _ _ _ _ _
                  rw [HE.out, ← List.append_assoc, List.length_append, eg2_append]
                  exact hown7
                clear hown7 hgrow7 H10 HB6 hx7 hat7
                go_wp2
                go_roundg (l.length - (j + 1))
                case measure => omega
                case rel => exact ⟨j + 1, by omega, by go_num, H11.out, HB7.out, HN2.out⟩
        · obtain rfl : j = l.length := by omega
          have H8 : Hid (wr.ownsRow w2.heap.size 46 2 u5 (ek l (k + 1)).length (eg2 (ek l (k + 1)))) := by
            show World.ownsRow _ _ _ _ _ _ _
            rw [ek_succ]
            exact hown.out
          have HD2 : Hid (∀ (a b : Nat) (x y : No), a < k + 1 → a ≠ b → l[a]? = some x → l[b]? = some y → x.i ≠ y.i) := fun a b u v ha hab hu hv => by
            rcases Nat.lt_or_ge a k with h | h
            · exact hDi.out a b u v h hab hu hv
            · obtain rfl : a = k := by omega
              rw [HX.out] at hu
              cases hu
              exact hne.out b v (List.getElem?_eq_some_iff.1 hv).1 hab hv
          go_wp2
          go_roundg (l.length - (k + 1))
          case measure => omega
          case rel => exact ⟨k + 1, by omega, by go_num, H8.out, hB.out, HD2.out⟩
    · obtain rfl : k = l.length := by omega
      have HDi : Hid (Di l) := Dk.di (fun a b x y hb ha hx hy => hDi.out a b x y ha (by omega) hx hy)
      have hel : (ee l).length ≤ 1000 := ee_len hl
      obtain ⟨A5, c5, e5, hE5⟩ := own_es hown.out rfl
      have HRw := HRl wr (HB1.out.trans (hB.out.mono HB1.out.size))
      have HE5 : Hid (Es wr wr.heap.size A5 (ee l)) := hE5
      have HEm : Hid (∀ z ∈ ee l, ∃ a d : Nat, z.1 = (a : Int) ∧ z.2 = (d : Int) ∧ Wg l a d) := fun z hz => (mem_ee (x := z.1) (y := z.2)).1 hz
      have HRz : Hid (∀ a d : Nat, a < l.length → d < l.length → (rz (l.length : Int) (ee l) (d : Int) (a : Int) = true ↔ Rt (Wg l) d a)) := fun a d ha hd => rz_iff (by omega) ha hd
      have HRe : ∀ V (a d : Nat), Es V V.heap.size A5 (ee l) → Hid (Calls Tryz.prog 22 #[.int .i64 (l.length : Int), .slice A5 (ee l).length c5, .int .i64 (d : Int), .int .i64 (a : Int)] V (Gp.BoolPost V (rz (l.length : Int) (ee l) (d : Int) (a : Int)))) := fun V a d h => Gp.Reaches_any _ A5 c5 (ee l) _ _ hel V h
      have e5' : u5 = .slice A5 (ee l).length c5 := e5
      clear e5
      subst e5'
      have HBr := Lib.hid (HB1.out.trans (hB.out.mono HB1.out.size))
      generalize rz (l.length : Int) (ee l) = rze at *
      generalize ee l = E at *
      clear hown hE5 HRl hDi hB
      go_wp2_with fail
      refine HRw.out.mono ?_
      rintro e w4 ⟨v4, o, rfl, hr4, ho4, b4⟩
      obtain ⟨A4, c4, rfl, hI4, -⟩ := own_il ho4
      have HOrs := Lib.hid (hr4.ors HRi.out)
      have hol : o.length ≤ 1000 := by
        have := hr4.len (Nat.le_trans (rdk_len _ _ _) (Nat.le_trans (cs_len l []) hl))
        omega
      have HB4 := Lib.hid (HBr.out.trans (b4.mono HBr.out.size))
      have HO := Lib.hid hI4
      have HE := Lib.hid (HE5.out.to b4 b4.size)
      have HNl := Lib.hid (HS.out.to HB4.out HB4.out.size)
      have HLaw := Lib.hid (fun (a d : Nat) (x y : No) (hx : l[a]? = some x) (hy : l[d]? = some y) (hw : wa x y.i = true) (p : Nat) (hp : o[p]? = some x.i) => behind_law H7.out HDi.out HOrs.out hx hy hw hp)
      have HOne := Lib.hid (fun (a b : Nat) (i : Is) (ha : o[a]? = some i) (hb : o[b]? = some i) => HOrs.out.one a b i ha hb)
      clear HRw hr4 ho4 hI4 b4 HBr HE5 HS HD0 HOrs HRi HF
      go_wp2
      go_loopg [9] E.length (fun q t W => ∃ j : Nat, j + q = E.length ∧ t = .int .i64 (j : Int) ∧ Hid (Below w4.heap.size w4 W))
      case atStart => exact ⟨0, by omega, rfl, Below.refl _ _⟩
      case round =>
        obtain ⟨j, hj, rfl, hB⟩ := hrel
        by_cases hjt : j < E.length
        · have hji : (j : Int) < (E.length : Int) := by omega
          have hj0 : (0 : Int) ≤ (j : Int) := by omega
          obtain ⟨a, d, e1, e2, x, y, hx, hy, hxy⟩ := HEm.out _ (List.getElem_mem hjt)
          have ha := (List.getElem?_eq_some_iff.1 hx).1
          have hd := (List.getElem?_eq_some_iff.1 hy).1
          have hai : (a : Int) < (l.length : Int) := by omega
          have hdi : (d : Int) < (l.length : Int) := by omega
          have ha0 : (0 : Int) ≤ (a : Int) := by omega
          have hd0 : (0 : Int) ≤ (d : Int) := by omega
          obtain ⟨b5, off5, rfl, hb5, g0, g1⟩ := HE.out.at_ hjt
          rw [e1] at g0
          rw [e2] at g1
          obtain ⟨b, off, rfl, hbl, p0, p1, p2, p3⟩ := HNl.out.at_ hx
          obtain ⟨b', off', e', hbl', r0, r1, r2, r3⟩ := HNl.out.at_ hy
          cases e'
          have HLx := Lib.hid (HLaw.out a d x y hx hy hxy)
          have HSame : Hid (a = d → x = y) := fun h => by subst h; rw [hx] at hy; exact Option.some.inj hy
          have HRzx := Lib.hid (HRz.out a d ha hd)
          have HPx : ∀ V, Below w4.heap.size w4 V → Hid (Calls Tryz.prog 18 #[.slice A4 o.length c4, iv x.i] V (fun e w' => ∃ z, e = .returned (.int .i64 z) ∧ Pl o x.i z ∧ Below V.heap.size V w')) := fun V hV => place_any A4 c4 o x.i hol V (HO.out.to hV hV.size)
          have HPy : ∀ V, Below w4.heap.size w4 V → Hid (Calls Tryz.prog 18 #[.slice A4 o.length c4, iv y.i] V (fun e w' => ∃ z, e = .returned (.int .i64 z) ∧ Pl o y.i z ∧ Below V.heap.size V w')) := fun V hV => place_any A4 c4 o y.i hol V (HO.out.to hV hV.size)
          have HRx : ∀ V, Below w4.heap.size w4 V → Hid (Calls Tryz.prog 22 #[.int .i64 (l.length : Int), .slice (some ⟨b5, off5, none⟩) E.length c5, .int .i64 (d : Int), .int .i64 (a : Int)] V (Gp.BoolPost V (rze (d : Int) (a : Int)))) := fun V hV => HRe V a d (HE.out.to hV hV.size)
          have HLs : ∀ V, Hid (Calls Tryz.prog 16 #[nv x, nv y] V (BoolPost V (ls x y))) := fun V => Less_any x y V
          generalize rze (d : Int) (a : Int) = mu at *
          have HCc : Hid (∀ V, Below w4.heap.size w4 V → V.cell? ⟨b5, off5 + j * 2, none⟩ = some (.int .i64 (a : Int)) ∧ V.cell? ⟨b5, off5 + j * 2 + 1, none⟩ = some (.int .i64 (d : Int)) ∧ V.cell? ⟨b, off + a * 4, none⟩ = some (.int .i64 x.b) ∧ V.cell? ⟨b, off + a * 4 + 1, none⟩ = some (.int .i64 x.s) ∧ V.cell? ⟨b, off + a * 4 + 2, none⟩ = some (.int .i64 x.q) ∧ V.cell? ⟨b, off + a * 4 + 3, none⟩ = some (.slice x.h x.d.length x.c) ∧ V.cell? ⟨b, off + d * 4, none⟩ = some (.int .i64 y.b) ∧ V.cell? ⟨b, off + d * 4 + 1, none⟩ = some (.int .i64 y.s) ∧ V.cell? ⟨b, off + d * 4 + 2, none⟩ = some (.int .i64 y.q) ∧ V.cell? ⟨b, off + d * 4 + 3, none⟩ = some (.slice y.h y.d.length y.c)) := Lib.hid (fun V g => ⟨(World.cell?_of_block (g.block _ hb5)).trans g0, (World.cell?_of_block (g.block _ hb5)).trans g1, (World.cell?_of_block (g.block _ hbl)).trans p0, (World.cell?_of_block (g.block _ hbl)).trans p1, (World.cell?_of_block (g.block _ hbl)).trans p2, (World.cell?_of_block (g.block _ hbl)).trans p3, (World.cell?_of_block (g.block _ hbl)).trans r0, (World.cell?_of_block (g.block _ hbl)).trans r1, (World.cell?_of_block (g.block _ hbl)).trans r2, (World.cell?_of_block (g.block _ hbl)).trans r3⟩)
          have HYo : Hid (∀ (p : Nat), o[p]? = some x.i → ∃ q : Nat, o[q]? = some y.i ∧ (mu = false → q < p) ∧ (mu = true → decide ((p : Int) < (q : Int)) = ls x y)) := fun p hp => by
            obtain ⟨q, hq, h1, h2⟩ := HLx.out p hp
            refine ⟨q, hq, fun hm => h1 fun hr => ?_, fun hm => ?_⟩
            · rw [HRzx.out.2 hr] at hm; cases hm
            · by_cases had : a = d
              · have := HSame.out had
                subst this
                have hpq := HOne.out p q _ hp hq
                subst hpq
                rcases hl' : ls x x with _ | _
                · exact decide_eq_false (by omega)
                · have := ls_asym hl'; rw [hl'] at this; cases this
              · have h3 := h2 (HRzx.out.1 hm) had
                rw [Bool.eq_iff_iff, decide_eq_true_iff, ← h3]
                omega
          clear e1 e2 hx hy hxy g0 g1 p0 p1 p2 p3 r0 r1 r2 r3 HLx HSame HRzx ha hd HEm HRz HRe HLaw hbl hbl'
          obtain ⟨xb, xs, xq, xd, xh, xc⟩ := x
          obtain ⟨yb, ys, yq, yd, yh, yc⟩ := y
          simp only [iv, nv, No.i] at *
          obtain ⟨g0, g1, p0, p1, p2, p3, r0, r1, r2, r3⟩ := HCc.out wr hB.out
          have HPx1 := HPx wr hB.out
          clear HPx
          go_wp2_with fail
          refine HPx1.out.mono ?_
          rintro e w5 ⟨z, rfl, hz, b5x⟩
          have HB5 := Lib.hid (hB.out.trans (b5x.mono hB.out.size))
          clear hB b5x HPx1 g0 g1 p0 p1 p2 p3 r0 r1 r2 r3
          obtain ⟨g0, g1, p0, p1, p2, p3, r0, r1, r2, r3⟩ := HCc.out w5 HB5.out
          have HPy1 := HPy w5 HB5.out
          clear HPy
          rcases hz with ⟨rfl, -⟩ | ⟨p, rfl, hop, -⟩
          · go_wp2_with fail
            refine HPy1.out.mono ?_
            rintro e w6 ⟨z2, rfl, -, b6x⟩
            have HB6 := Lib.hid (HB5.out.trans (b6x.mono HB5.out.size))
            clear HB5 b6x HPy1 g0 g1 p0 p1 p2 p3 r0 r1 r2 r3 HYo
            have SB : Hid (∀ V, Below w6.heap.size w6 V → V.cell? ⟨b5, off5 + j * 2, none⟩ = some (.int .i64 (a : Int)) ∧ V.cell? ⟨b5, off5 + j * 2 + 1, none⟩ = some (.int .i64 (d : Int))) := Lib.hid (fun V g => by
              obtain ⟨g0, g1, _⟩ := HCc.out V (HB6.out.trans (g.mono HB6.out.size))
              exact ⟨g0, g1⟩)
            have BD : Hid (Below w6.heap.size w6 w6.drew) := (Below.refl _ _).drew
            have HR6 : ∀ V, Below w6.heap.size w6 V → _ := fun V hV => HRx V (HB6.out.trans (hV.mono HB6.out.size))
            clear HRx
            go_wp2_with fail
            refine wp_region_held_drew (S := fun v => Below w6.heap.size w6 v) (by kernel_rfl) BD.out (fun hH => ?_)
            refine wpAnyH_take (i := 0) (v := ?v23) rfl (by kernel_rfl) (by kernel_rfl) (by kernel_rfl) (fun _ _ _ h => h) (Or.inl ⟨by rfl, ?hy23⟩) hH ?rest23
            case hy23 => (intro w hSw; (try dsimp only at hSw); go_simp; try with_reducible rfl)
            try simp only [Act.put, List.setIfInBounds_toArray, List.set_cons_zero, List.set_cons_succ, List.getElem_toArray, List.getElem_cons_zero]
            refine wpAnyH_take (i := 2) (v := ?v24) rfl (by kernel_rfl) (by kernel_rfl) (by kernel_rfl) (fun _ _ _ h => h) (Or.inl ⟨by rfl, ?hy24⟩) hH ?rest24
            case hy24 => (intro w hSw; (try dsimp only at hSw); go_simp; try with_reducible rfl)
            try simp only [Act.put, List.setIfInBounds_toArray, List.set_cons_zero, List.set_cons_succ, List.getElem_toArray, List.getElem_cons_zero, List.getElem_cons_succ]
            refine wpAnyH_take (i := 3) (v := ?v25) rfl (by kernel_rfl) (by kernel_rfl) (by kernel_rfl) (fun _ _ _ h => h) (Or.inl ⟨by rfl, ?hy25⟩) hH ?rest25
            case hy25 => (intro w hSw; (try dsimp only at hSw); go_simp; try with_reducible rfl)
            try simp only [Act.put, List.setIfInBounds_toArray, List.set_cons_zero, List.set_cons_succ, List.getElem_toArray, List.getElem_cons_zero, List.getElem_cons_succ]
            refine wpAnyH_take (i := 4) (v := ?v26) rfl (by kernel_rfl) (by kernel_rfl) (by kernel_rfl) (fun _ _ _ h => h) (Or.inl ⟨by rfl, ?hy26⟩) hH ?rest26
            case hy26 => (intro w hSw; (try dsimp only at hSw); go_simp; try with_reducible rfl)
            try simp only [Act.put, List.setIfInBounds_toArray, List.set_cons_zero, List.set_cons_succ, List.getElem_toArray, List.getElem_cons_zero, List.getElem_cons_succ]
            refine wpAnyH_take (i := 8) (v := ?v27) rfl (by kernel_rfl) (by kernel_rfl) (by kernel_rfl) (fun _ _ _ h => h) (Or.inl ⟨by rfl, ?hy27⟩) hH ?rest27
            case hy27 => (intro w hSw; (try dsimp only at hSw); go_simp; try with_reducible rfl)
            try simp only [Act.put, List.setIfInBounds_toArray, List.set_cons_zero, List.set_cons_succ, List.getElem_toArray, List.getElem_cons_zero, List.getElem_cons_succ]
            refine wpAnyH_take (i := 9) (v := ?v28) rfl (by kernel_rfl) (by kernel_rfl) (by kernel_rfl) (fun _ _ _ h => h) (Or.inl ⟨by rfl, ?hy28⟩) hH ?rest28
            case hy28 => (intro w hSw; (try dsimp only at hSw); go_simp; try with_reducible rfl)
            try simp only [Act.put, List.setIfInBounds_toArray, List.set_cons_zero, List.set_cons_succ, List.getElem_toArray, List.getElem_cons_zero, List.getElem_cons_succ]
            refine wpAnyH_take (i := 1) (v := ?v29) rfl (by kernel_rfl) (by kernel_rfl) (by kernel_rfl) (fun _ _ _ h => h) (Or.inl ⟨by rfl, ?hy29⟩) hH ?rest29
            case hy29 => (intro w hSw; (try dsimp only at hSw); go_simp; try with_reducible rfl)
            try simp only [Act.put, List.setIfInBounds_toArray, List.set_cons_zero, List.set_cons_succ, List.getElem_toArray, List.getElem_cons_zero, List.getElem_cons_succ]
            refine wpAnyH_take (i := 5) (v := ?v30) rfl (by kernel_rfl) (by kernel_rfl) (by kernel_rfl) (fun _ _ _ h => h) (Or.inl ⟨by rfl, ?hy30⟩) hH ?rest30
            case hy30 => (intro w hSw; (try dsimp only at hSw); go_simp; try with_reducible rfl)
            try simp only [Act.put, List.setIfInBounds_toArray, List.set_cons_zero, List.set_cons_succ, List.getElem_toArray, List.getElem_cons_zero, List.getElem_cons_succ]
            refine wpAnyH_take (i := 10) (v := ?v31) rfl (by kernel_rfl) (by kernel_rfl) (by kernel_rfl) (fun _ _ _ h => h) (Or.inl ⟨by rfl, ?hy31⟩) hH ?rest31
            case hy31 => (intro w hSw; (try dsimp only at hSw); go_simp; try with_reducible rfl)
            try simp only [Act.put, List.setIfInBounds_toArray, List.set_cons_zero, List.set_cons_succ, List.getElem_toArray, List.getElem_cons_zero, List.getElem_cons_succ]
            refine wpAnyH_take (i := 6) (v := ?v32) rfl (by kernel_rfl) (by kernel_rfl) (by kernel_rfl) (fun _ _ _ h => h) (Or.inl ⟨by rfl, ?hy32⟩) hH ?rest32
            case hy32 => (intro w hSw; (try dsimp only at hSw); go_simp; try with_reducible rfl)
            try simp only [Act.put, List.setIfInBounds_toArray, List.set_cons_zero, List.set_cons_succ, List.getElem_toArray, List.getElem_cons_zero, List.getElem_cons_succ]
            refine wpAnyH_take (i := 11) (v := ?v33) rfl (by kernel_rfl) (by kernel_rfl) (by kernel_rfl) (fun _ _ _ h => h) (Or.inl ⟨by rfl, ?hy33⟩) hH ?rest33
            case hy33 => (intro w hSw; (try dsimp only at hSw); go_simp; try with_reducible rfl)
            try simp only [Act.put, List.setIfInBounds_toArray, List.set_cons_zero, List.set_cons_succ, List.getElem_toArray, List.getElem_cons_zero, List.getElem_cons_succ]
            refine wpAnyH_take (i := 7) (v := ?v34) rfl (by kernel_rfl) (by kernel_rfl) (by kernel_rfl) (fun _ _ _ h => h) (Or.inl ⟨by rfl, ?hy34⟩) hH ?rest34
            case hy34 => (intro w hSw; (try dsimp only at hSw); obtain ⟨g0, g1⟩ := SB.out w hSw; go_simp; try with_reducible rfl)
            try simp only [Act.put, List.setIfInBounds_toArray, List.set_cons_zero, List.set_cons_succ, List.getElem_toArray, List.getElem_cons_zero, List.getElem_cons_succ]
            refine wpAnyH_take (i := 12) (v := ?v35) rfl (by kernel_rfl) (by kernel_rfl) (by kernel_rfl) (fun _ _ _ h => h) (Or.inl ⟨by rfl, ?hy35⟩) hH ?rest35
            case hy35 => (intro w hSw; (try dsimp only at hSw); obtain ⟨g0, g1⟩ := SB.out w hSw; go_simp; try with_reducible rfl)
            try simp only [Act.put, List.setIfInBounds_toArray, List.set_cons_zero, List.set_cons_succ, List.getElem_toArray, List.getElem_cons_zero, List.getElem_cons_succ]
            refine wpAnyH_ready (rs := [13]) (by kernel_rfl) (by simp) ?_
            refine AllReadyH.cons rfl (fun K hK => ?_) AllReadyH.nil
            go_simp
            go_at_call 22
            with_reducible refine (HR6 _ hH).out.mono ?_
            rintro e wq36 ⟨rfl, bq36⟩
            go_wp2_with fail
            refine hK.out _ _ (hH.trans (bq36.mono hH.size)) (fun hH2 => ?_)
            clear hK K hH
            have hH := hH2
            clear hH2
            try simp only [Act.put, List.setIfInBounds_toArray, List.set_cons_zero, List.set_cons_succ, List.getElem_toArray, List.getElem_cons_zero, List.getElem_cons_succ]
            refine wpAnyH_take (i := 14) (v := ?v37) rfl (by kernel_rfl) (by kernel_rfl) (by kernel_rfl) (fun _ _ _ h => h) (Or.inl ⟨by rfl, ?hy37⟩) hH ?rest37
            case hy37 => (intro w hSw; (try dsimp only at hSw); go_simp; try with_reducible rfl)
            try simp only [Act.put, List.setIfInBounds_toArray, List.set_cons_zero, List.set_cons_succ, List.getElem_toArray, List.getElem_cons_zero, List.getElem_cons_succ]
            refine wpAnyH_done (by kernel_rfl) ?_ _
            have HB7 := Lib.hid (HB6.out.trans (hH.mono HB6.out.size))
            clear HR6 SB BD HB6 hH
            generalize wq36 = w7 at *
            go_wp2_with fail
            have SB : Hid (∀ V, Below w7.heap.size w7 V → V.cell? ⟨b5, off5 + j * 2, none⟩ = some (.int .i64 (a : Int)) ∧ V.cell? ⟨b5, off5 + j * 2 + 1, none⟩ = some (.int .i64 (d : Int)) ∧ V.cell? ⟨b, off + a * 4, none⟩ = some (.int .i64 xb) ∧ V.cell? ⟨b, off + a * 4 + 1, none⟩ = some (.int .i64 xs) ∧ V.cell? ⟨b, off + a * 4 + 2, none⟩ = some (.int .i64 xq) ∧ V.cell? ⟨b, off + a * 4 + 3, none⟩ = some (.slice xh xd.length xc) ∧ V.cell? ⟨b, off + d * 4, none⟩ = some (.int .i64 yb) ∧ V.cell? ⟨b, off + d * 4 + 1, none⟩ = some (.int .i64 ys) ∧ V.cell? ⟨b, off + d * 4 + 2, none⟩ = some (.int .i64 yq) ∧ V.cell? ⟨b, off + d * 4 + 3, none⟩ = some (.slice yh yd.length yc)) := Lib.hid (fun V g => HCc.out V (HB7.out.trans (g.mono HB7.out.size)))
            have BD : Hid (Below w7.heap.size w7 w7.drew) := (Below.refl _ _).drew
            have HL7 := HLs
            refine wp_region_held_drew (S := fun v => Below w7.heap.size w7 v) (by kernel_rfl) BD.out (fun hH => ?_)
            refine wpAnyH_take (i := 0) (v := ?v38) rfl (by kernel_rfl) (by kernel_rfl) (by kernel_rfl) (fun _ _ _ h => h) (Or.inl ⟨by rfl, ?hy38⟩) hH ?rest38
            case hy38 => (intro w hSw; (try dsimp only at hSw); go_simp; try with_reducible rfl)
            try simp only [Act.put, List.setIfInBounds_toArray, List.set_cons_zero, List.set_cons_succ, List.getElem_toArray, List.getElem_cons_zero]
            refine wpAnyH_take (i := 1) (v := ?v39) rfl (by kernel_rfl) (by kernel_rfl) (by kernel_rfl) (fun _ _ _ h => h) (Or.inl ⟨by rfl, ?hy39⟩) hH ?rest39
            case hy39 => (intro w hSw; (try dsimp only at hSw); go_simp; try with_reducible rfl)
            try simp only [Act.put, List.setIfInBounds_toArray, List.set_cons_zero, List.set_cons_succ, List.getElem_toArray, List.getElem_cons_zero, List.getElem_cons_succ]
            refine wpAnyH_take (i := 2) (v := ?v40) rfl (by kernel_rfl) (by kernel_rfl) (by kernel_rfl) (fun _ _ _ h => h) (Or.inl ⟨by rfl, ?hy40⟩) hH ?rest40
            case hy40 => (intro w hSw; (try dsimp only at hSw); go_simp; try with_reducible rfl)
            try simp only [Act.put, List.setIfInBounds_toArray, List.set_cons_zero, List.set_cons_succ, List.getElem_toArray, List.getElem_cons_zero, List.getElem_cons_succ]
            refine wpAnyH_take (i := 3) (v := undef) rfl (by kernel_rfl) (by kernel_rfl) (by kernel_rfl) (fun _ _ _ h => h) (Or.inr ⟨by rfl, rfl⟩) hH ?rest41
            try simp only [Act.put, List.setIfInBounds_toArray, List.set_cons_zero, List.set_cons_succ, List.getElem_toArray, List.getElem_cons_zero, List.getElem_cons_succ]
            refine wpAnyH_take (i := 4) (v := ?v42) rfl (by kernel_rfl) (by kernel_rfl) (by kernel_rfl) (fun _ _ _ h => h) (Or.inl ⟨by rfl, ?hy42⟩) hH ?rest42
            case hy42 => (intro w hSw; (try dsimp only at hSw); go_simp; try with_reducible rfl)
            try simp only [Act.put, List.setIfInBounds_toArray, List.set_cons_zero, List.set_cons_succ, List.getElem_toArray, List.getElem_cons_zero, List.getElem_cons_succ]
            refine wpAnyH_take (i := 5) (v := ?v43) rfl (by kernel_rfl) (by kernel_rfl) (by kernel_rfl) (fun _ _ _ h => h) (Or.inl ⟨by rfl, ?hy43⟩) hH ?rest43
            case hy43 => (intro w hSw; (try dsimp only at hSw); go_simp; try with_reducible rfl)
            try simp only [Act.put, List.setIfInBounds_toArray, List.set_cons_zero, List.set_cons_succ, List.getElem_toArray, List.getElem_cons_zero, List.getElem_cons_succ]
            refine wpAnyH_take (i := 6) (v := undef) rfl (by kernel_rfl) (by kernel_rfl) (by kernel_rfl) (fun _ _ _ h => h) (Or.inr ⟨by rfl, rfl⟩) hH ?rest44
            try simp only [Act.put, List.setIfInBounds_toArray, List.set_cons_zero, List.set_cons_succ, List.getElem_toArray, List.getElem_cons_zero, List.getElem_cons_succ]
            refine wpAnyH_take (i := 7) (v := undef) rfl (by kernel_rfl) (by kernel_rfl) (by kernel_rfl) (fun _ _ _ h => h) (Or.inr ⟨by rfl, rfl⟩) hH ?rest45
            try simp only [Act.put, List.setIfInBounds_toArray, List.set_cons_zero, List.set_cons_succ, List.getElem_toArray, List.getElem_cons_zero, List.getElem_cons_succ]
            refine wpAnyH_take (i := 9) (v := undef) rfl (by kernel_rfl) (by kernel_rfl) (by kernel_rfl) (fun _ _ _ h => h) (Or.inr ⟨by rfl, rfl⟩) hH ?rest46
            try simp only [Act.put, List.setIfInBounds_toArray, List.set_cons_zero, List.set_cons_succ, List.getElem_toArray, List.getElem_cons_zero, List.getElem_cons_succ]
            refine wpAnyH_take (i := 10) (v := undef) rfl (by kernel_rfl) (by kernel_rfl) (by kernel_rfl) (fun _ _ _ h => h) (Or.inr ⟨by rfl, rfl⟩) hH ?rest47
            try simp only [Act.put, List.setIfInBounds_toArray, List.set_cons_zero, List.set_cons_succ, List.getElem_toArray, List.getElem_cons_zero, List.getElem_cons_succ]
            refine wpAnyH_take (i := 11) (v := undef) rfl (by kernel_rfl) (by kernel_rfl) (by kernel_rfl) (fun _ _ _ h => h) (Or.inr ⟨by rfl, rfl⟩) hH ?rest48
            try simp only [Act.put, List.setIfInBounds_toArray, List.set_cons_zero, List.set_cons_succ, List.getElem_toArray, List.getElem_cons_zero, List.getElem_cons_succ]
            refine wpAnyH_take (i := 17) (v := undef) rfl (by kernel_rfl) (by kernel_rfl) (by kernel_rfl) (fun _ _ _ h => h) (Or.inr ⟨by rfl, rfl⟩) hH ?rest49
            try simp only [Act.put, List.setIfInBounds_toArray, List.set_cons_zero, List.set_cons_succ, List.getElem_toArray, List.getElem_cons_zero, List.getElem_cons_succ]
            refine wpAnyH_take (i := 18) (v := undef) rfl (by kernel_rfl) (by kernel_rfl) (by kernel_rfl) (fun _ _ _ h => h) (Or.inr ⟨by rfl, rfl⟩) hH ?rest50
            try simp only [Act.put, List.setIfInBounds_toArray, List.set_cons_zero, List.set_cons_succ, List.getElem_toArray, List.getElem_cons_zero, List.getElem_cons_succ]
            refine wpAnyH_take (i := 19) (v := undef) rfl (by kernel_rfl) (by kernel_rfl) (by kernel_rfl) (fun _ _ _ h => h) (Or.inr ⟨by rfl, rfl⟩) hH ?rest51
            try simp only [Act.put, List.setIfInBounds_toArray, List.set_cons_zero, List.set_cons_succ, List.getElem_toArray, List.getElem_cons_zero, List.getElem_cons_succ]
            refine wpAnyH_take (i := 8) (v := undef) rfl (by kernel_rfl) (by kernel_rfl) (by kernel_rfl) (fun _ _ _ h => h) (Or.inr ⟨by rfl, rfl⟩) hH ?rest52
            try simp only [Act.put, List.setIfInBounds_toArray, List.set_cons_zero, List.set_cons_succ, List.getElem_toArray, List.getElem_cons_zero, List.getElem_cons_succ]
            refine wpAnyH_take (i := 12) (v := undef) rfl (by kernel_rfl) (by kernel_rfl) (by kernel_rfl) (fun _ _ _ h => h) (Or.inr ⟨by rfl, rfl⟩) hH ?rest53
            try simp only [Act.put, List.setIfInBounds_toArray, List.set_cons_zero, List.set_cons_succ, List.getElem_toArray, List.getElem_cons_zero, List.getElem_cons_succ]
            refine wpAnyH_take (i := 20) (v := undef) rfl (by kernel_rfl) (by kernel_rfl) (by kernel_rfl) (fun _ _ _ h => h) (Or.inr ⟨by rfl, rfl⟩) hH ?rest54
            try simp only [Act.put, List.setIfInBounds_toArray, List.set_cons_zero, List.set_cons_succ, List.getElem_toArray, List.getElem_cons_zero, List.getElem_cons_succ]
            refine wpAnyH_take (i := 13) (v := undef) rfl (by kernel_rfl) (by kernel_rfl) (by kernel_rfl) (fun _ _ _ h => h) (Or.inr ⟨by rfl, rfl⟩) hH ?rest55
            try simp only [Act.put, List.setIfInBounds_toArray, List.set_cons_zero, List.set_cons_succ, List.getElem_toArray, List.getElem_cons_zero, List.getElem_cons_succ]
            refine wpAnyH_take (i := 21) (v := undef) rfl (by kernel_rfl) (by kernel_rfl) (by kernel_rfl) (fun _ _ _ h => h) (Or.inr ⟨by rfl, rfl⟩) hH ?rest56
            try simp only [Act.put, List.setIfInBounds_toArray, List.set_cons_zero, List.set_cons_succ, List.getElem_toArray, List.getElem_cons_zero, List.getElem_cons_succ]
            refine wpAnyH_take (i := 14) (v := undef) rfl (by kernel_rfl) (by kernel_rfl) (by kernel_rfl) (fun _ _ _ h => h) (Or.inr ⟨by rfl, rfl⟩) hH ?rest57
            try simp only [Act.put, List.setIfInBounds_toArray, List.set_cons_zero, List.set_cons_succ, List.getElem_toArray, List.getElem_cons_zero, List.getElem_cons_succ]
            refine wpAnyH_take (i := 22) (v := undef) rfl (by kernel_rfl) (by kernel_rfl) (by kernel_rfl) (fun _ _ _ h => h) (Or.inr ⟨by rfl, rfl⟩) hH ?rest58
            try simp only [Act.put, List.setIfInBounds_toArray, List.set_cons_zero, List.set_cons_succ, List.getElem_toArray, List.getElem_cons_zero, List.getElem_cons_succ]
            refine wpAnyH_take (i := 15) (v := undef) rfl (by kernel_rfl) (by kernel_rfl) (by kernel_rfl) (fun _ _ _ h => h) (Or.inr ⟨by rfl, rfl⟩) hH ?rest59
            try simp only [Act.put, List.setIfInBounds_toArray, List.set_cons_zero, List.set_cons_succ, List.getElem_toArray, List.getElem_cons_zero, List.getElem_cons_succ]
            refine wpAnyH_take (i := 23) (v := undef) rfl (by kernel_rfl) (by kernel_rfl) (by kernel_rfl) (fun _ _ _ h => h) (Or.inr ⟨by rfl, rfl⟩) hH ?rest60
            try simp only [Act.put, List.setIfInBounds_toArray, List.set_cons_zero, List.set_cons_succ, List.getElem_toArray, List.getElem_cons_zero, List.getElem_cons_succ]
            refine wpAnyH_take (i := 16) (v := undef) rfl (by kernel_rfl) (by kernel_rfl) (by kernel_rfl) (fun _ _ _ h => h) (Or.inr ⟨by rfl, rfl⟩) hH ?rest61
            try simp only [Act.put, List.setIfInBounds_toArray, List.set_cons_zero, List.set_cons_succ, List.getElem_toArray, List.getElem_cons_zero, List.getElem_cons_succ]
            refine wpAnyH_take (i := 24) (v := undef) rfl (by kernel_rfl) (by kernel_rfl) (by kernel_rfl) (fun _ _ _ h => h) (Or.inr ⟨by rfl, rfl⟩) hH ?rest62
            try simp only [Act.put, List.setIfInBounds_toArray, List.set_cons_zero, List.set_cons_succ, List.getElem_toArray, List.getElem_cons_zero, List.getElem_cons_succ]
            refine wpAnyH_take (i := 25) (v := undef) rfl (by kernel_rfl) (by kernel_rfl) (by kernel_rfl) (fun _ _ _ h => h) (Or.inr ⟨by rfl, rfl⟩) hH ?rest63
            try simp only [Act.put, List.setIfInBounds_toArray, List.set_cons_zero, List.set_cons_succ, List.getElem_toArray, List.getElem_cons_zero, List.getElem_cons_succ]
            refine wpAnyH_take (i := 26) (v := undef) rfl (by kernel_rfl) (by kernel_rfl) (by kernel_rfl) (fun _ _ _ h => h) (Or.inr ⟨by rfl, rfl⟩) hH ?rest64
            try simp only [Act.put, List.setIfInBounds_toArray, List.set_cons_zero, List.set_cons_succ, List.getElem_toArray, List.getElem_cons_zero, List.getElem_cons_succ]
            refine wpAnyH_take (i := 27) (v := ?v65) rfl (by kernel_rfl) (by kernel_rfl) (by kernel_rfl) (fun _ _ _ h => h) (Or.inl ⟨by rfl, ?hy65⟩) hH ?rest65
            case hy65 => (intro w hSw; (try dsimp only at hSw); go_simp; try with_reducible rfl)
            try simp only [Act.put, List.setIfInBounds_toArray, List.set_cons_zero, List.set_cons_succ, List.getElem_toArray, List.getElem_cons_zero, List.getElem_cons_succ]
            refine wpAnyH_take (i := 28) (v := ?v66) rfl (by kernel_rfl) (by kernel_rfl) (by kernel_rfl) (fun _ _ _ h => h) (Or.inl ⟨by rfl, ?hy66⟩) hH ?rest66
            case hy66 => (intro w hSw; (try dsimp only at hSw); go_simp; try with_reducible rfl)
            try simp only [Act.put, List.setIfInBounds_toArray, List.set_cons_zero, List.set_cons_succ, List.getElem_toArray, List.getElem_cons_zero, List.getElem_cons_succ]
            refine wpAnyH_take (i := 29) (v := undef) rfl (by kernel_rfl) (by kernel_rfl) (by kernel_rfl) (fun _ _ _ h => h) (Or.inr ⟨by rfl, rfl⟩) hH ?rest67
            try simp only [Act.put, List.setIfInBounds_toArray, List.set_cons_zero, List.set_cons_succ, List.getElem_toArray, List.getElem_cons_zero, List.getElem_cons_succ]
            refine wpAnyH_take (i := 30) (v := undef) rfl (by kernel_rfl) (by kernel_rfl) (by kernel_rfl) (fun _ _ _ h => h) (Or.inr ⟨by rfl, rfl⟩) hH ?rest68
            try simp only [Act.put, List.setIfInBounds_toArray, List.set_cons_zero, List.set_cons_succ, List.getElem_toArray, List.getElem_cons_zero, List.getElem_cons_succ]
            refine wpAnyH_take (i := 34) (v := undef) rfl (by kernel_rfl) (by kernel_rfl) (by kernel_rfl) (fun _ _ _ h => h) (Or.inr ⟨by rfl, rfl⟩) hH ?rest69
            try simp only [Act.put, List.setIfInBounds_toArray, List.set_cons_zero, List.set_cons_succ, List.getElem_toArray, List.getElem_cons_zero, List.getElem_cons_succ]
            refine wpAnyH_take (i := 35) (v := undef) rfl (by kernel_rfl) (by kernel_rfl) (by kernel_rfl) (fun _ _ _ h => h) (Or.inr ⟨by rfl, rfl⟩) hH ?rest70
            try simp only [Act.put, List.setIfInBounds_toArray, List.set_cons_zero, List.set_cons_succ, List.getElem_toArray, List.getElem_cons_zero, List.getElem_cons_succ]
            refine wpAnyH_take (i := 31) (v := undef) rfl (by kernel_rfl) (by kernel_rfl) (by kernel_rfl) (fun _ _ _ h => h) (Or.inr ⟨by rfl, rfl⟩) hH ?rest71
            try simp only [Act.put, List.setIfInBounds_toArray, List.set_cons_zero, List.set_cons_succ, List.getElem_toArray, List.getElem_cons_zero, List.getElem_cons_succ]
            refine wpAnyH_take (i := 36) (v := undef) rfl (by kernel_rfl) (by kernel_rfl) (by kernel_rfl) (fun _ _ _ h => h) (Or.inr ⟨by rfl, rfl⟩) hH ?rest72
            try simp only [Act.put, List.setIfInBounds_toArray, List.set_cons_zero, List.set_cons_succ, List.getElem_toArray, List.getElem_cons_zero, List.getElem_cons_succ]
            refine wpAnyH_take (i := 32) (v := undef) rfl (by kernel_rfl) (by kernel_rfl) (by kernel_rfl) (fun _ _ _ h => h) (Or.inr ⟨by rfl, rfl⟩) hH ?rest73
            try simp only [Act.put, List.setIfInBounds_toArray, List.set_cons_zero, List.set_cons_succ, List.getElem_toArray, List.getElem_cons_zero, List.getElem_cons_succ]
            refine wpAnyH_take (i := 37) (v := undef) rfl (by kernel_rfl) (by kernel_rfl) (by kernel_rfl) (fun _ _ _ h => h) (Or.inr ⟨by rfl, rfl⟩) hH ?rest74
            try simp only [Act.put, List.setIfInBounds_toArray, List.set_cons_zero, List.set_cons_succ, List.getElem_toArray, List.getElem_cons_zero, List.getElem_cons_succ]
            refine wpAnyH_take (i := 33) (v := undef) rfl (by kernel_rfl) (by kernel_rfl) (by kernel_rfl) (fun _ _ _ h => h) (Or.inr ⟨by rfl, rfl⟩) hH ?rest75
            try simp only [Act.put, List.setIfInBounds_toArray, List.set_cons_zero, List.set_cons_succ, List.getElem_toArray, List.getElem_cons_zero, List.getElem_cons_succ]
            refine wpAnyH_take (i := 38) (v := undef) rfl (by kernel_rfl) (by kernel_rfl) (by kernel_rfl) (fun _ _ _ h => h) (Or.inr ⟨by rfl, rfl⟩) hH ?rest76
            try simp only [Act.put, List.setIfInBounds_toArray, List.set_cons_zero, List.set_cons_succ, List.getElem_toArray, List.getElem_cons_zero, List.getElem_cons_succ]
            refine wpAnyH_take (i := 39) (v := undef) rfl (by kernel_rfl) (by kernel_rfl) (by kernel_rfl) (fun _ _ _ h => h) (Or.inr ⟨by rfl, rfl⟩) hH ?rest77
            try simp only [Act.put, List.setIfInBounds_toArray, List.set_cons_zero, List.set_cons_succ, List.getElem_toArray, List.getElem_cons_zero, List.getElem_cons_succ]
            refine wpAnyH_take (i := 40) (v := ?v78) rfl (by kernel_rfl) (by kernel_rfl) (by kernel_rfl) (fun _ _ _ h => h) (Or.inl ⟨by rfl, ?hy78⟩) hH ?rest78
            case hy78 => (intro w hSw; (try dsimp only at hSw); go_simp; try with_reducible rfl)
            try simp only [Act.put, List.setIfInBounds_toArray, List.set_cons_zero, List.set_cons_succ, List.getElem_toArray, List.getElem_cons_zero, List.getElem_cons_succ]
            refine wpAnyH_done (by kernel_rfl) ?_ _
            have HB8 := Lib.hid (HB7.out.trans (hH.mono HB7.out.size))
            clear HB7 HCc hH SB BD HL7
            go_wp2
            go_roundg (E.length - (j + 1))
            case measure => omega
            case rel => exact ⟨j + 1, by omega, by go_num, HB8.out⟩
          · obtain ⟨q, hoq, hm1, hm2⟩ := HYo.out p hop
            go_wp2_with fail
            refine HPy1.out.mono ?_
            rintro e w6 ⟨z2, rfl, hz2, b6x⟩
            have HB6 := Lib.hid (HB5.out.trans (b6x.mono HB5.out.size))
            have hz2' : z2 = (q : Int) := by
              rcases hz2 with ⟨_, h⟩ | ⟨q', rfl, h, _⟩
              · exact absurd (List.mem_of_getElem? hoq) h
              · rw [HOne.out _ _ _ h hoq]
            subst hz2'
            have t1 : decide ((p : Int) < 0) = false := decide_eq_false (by omega)
            have t2 : decide ((q : Int) < 0) = false := decide_eq_false (by omega)
            have t3 : decide ((0 : Int) ≤ (p : Int)) = true := decide_eq_true (by omega)
            clear HB5 b6x HPy1 g0 g1 p0 p1 p2 p3 r0 r1 r2 r3 HYo hz2 hoq hop
            rcases mu with _ | _
            · have hqp := hm1 rfl
              have t4 : decide ((p : Int) < (q : Int)) = false := decide_eq_false (by omega)
              have t5 : decide (p < q) = false := decide_eq_false (by omega)
              clear hm1 hm2 hqp
              have SB : Hid (∀ V, Below w6.heap.size w6 V → V.cell? ⟨b5, off5 + j * 2, none⟩ = some (.int .i64 (a : Int)) ∧ V.cell? ⟨b5, off5 + j * 2 + 1, none⟩ = some (.int .i64 (d : Int))) := Lib.hid (fun V g => by
                obtain ⟨g0, g1, _⟩ := HCc.out V (HB6.out.trans (g.mono HB6.out.size))
                exact ⟨g0, g1⟩)
              have BD : Hid (Below w6.heap.size w6 w6.drew) := (Below.refl _ _).drew
              have HR6 : ∀ V, Below w6.heap.size w6 V → _ := fun V hV => HRx V (HB6.out.trans (hV.mono HB6.out.size))
              clear HRx
              go_wp2_with fail
              refine wp_region_held_drew (S := fun v => Below w6.heap.size w6 v) (by kernel_rfl) BD.out (fun hH => ?_)
              refine wpAnyH_take (i := 0) (v := ?v79) rfl (by kernel_rfl) (by kernel_rfl) (by kernel_rfl) (fun _ _ _ h => h) (Or.inl ⟨by rfl, ?hy79⟩) hH ?rest79
              case hy79 => (intro w hSw; (try dsimp only at hSw); go_simp; try with_reducible rfl)
              try simp only [Act.put, List.setIfInBounds_toArray, List.set_cons_zero, List.set_cons_succ, List.getElem_toArray, List.getElem_cons_zero]
              refine wpAnyH_take (i := 2) (v := ?v80) rfl (by kernel_rfl) (by kernel_rfl) (by kernel_rfl) (fun _ _ _ h => h) (Or.inl ⟨by rfl, ?hy80⟩) hH ?rest80
              case hy80 => (intro w hSw; (try dsimp only at hSw); go_simp; try with_reducible rfl)
              try simp only [Act.put, List.setIfInBounds_toArray, List.set_cons_zero, List.set_cons_succ, List.getElem_toArray, List.getElem_cons_zero, List.getElem_cons_succ]
              refine wpAnyH_take (i := 3) (v := ?v81) rfl (by kernel_rfl) (by kernel_rfl) (by kernel_rfl) (fun _ _ _ h => h) (Or.inl ⟨by rfl, ?hy81⟩) hH ?rest81
              case hy81 => (intro w hSw; (try dsimp only at hSw); go_simp; try with_reducible rfl)
              try simp only [Act.put, List.setIfInBounds_toArray, List.set_cons_zero, List.set_cons_succ, List.getElem_toArray, List.getElem_cons_zero, List.getElem_cons_succ]
              refine wpAnyH_take (i := 4) (v := ?v82) rfl (by kernel_rfl) (by kernel_rfl) (by kernel_rfl) (fun _ _ _ h => h) (Or.inl ⟨by rfl, ?hy82⟩) hH ?rest82
              case hy82 => (intro w hSw; (try dsimp only at hSw); go_simp; try with_reducible rfl)
              try simp only [Act.put, List.setIfInBounds_toArray, List.set_cons_zero, List.set_cons_succ, List.getElem_toArray, List.getElem_cons_zero, List.getElem_cons_succ]
              refine wpAnyH_take (i := 8) (v := ?v83) rfl (by kernel_rfl) (by kernel_rfl) (by kernel_rfl) (fun _ _ _ h => h) (Or.inl ⟨by rfl, ?hy83⟩) hH ?rest83
              case hy83 => (intro w hSw; (try dsimp only at hSw); go_simp; try with_reducible rfl)
              try simp only [Act.put, List.setIfInBounds_toArray, List.set_cons_zero, List.set_cons_succ, List.getElem_toArray, List.getElem_cons_zero, List.getElem_cons_succ]
              refine wpAnyH_take (i := 9) (v := ?v84) rfl (by kernel_rfl) (by kernel_rfl) (by kernel_rfl) (fun _ _ _ h => h) (Or.inl ⟨by rfl, ?hy84⟩) hH ?rest84
              case hy84 => (intro w hSw; (try dsimp only at hSw); go_simp; try with_reducible rfl)
              try simp only [Act.put, List.setIfInBounds_toArray, List.set_cons_zero, List.set_cons_succ, List.getElem_toArray, List.getElem_cons_zero, List.getElem_cons_succ]
              refine wpAnyH_take (i := 1) (v := ?v85) rfl (by kernel_rfl) (by kernel_rfl) (by kernel_rfl) (fun _ _ _ h => h) (Or.inl ⟨by rfl, ?hy85⟩) hH ?rest85
              case hy85 => (intro w hSw; (try dsimp only at hSw); go_simp; try with_reducible rfl)
              try simp only [Act.put, List.setIfInBounds_toArray, List.set_cons_zero, List.set_cons_succ, List.getElem_toArray, List.getElem_cons_zero, List.getElem_cons_succ]
              refine wpAnyH_take (i := 5) (v := ?v86) rfl (by kernel_rfl) (by kernel_rfl) (by kernel_rfl) (fun _ _ _ h => h) (Or.inl ⟨by rfl, ?hy86⟩) hH ?rest86
              case hy86 => (intro w hSw; (try dsimp only at hSw); go_simp; try with_reducible rfl)
              try simp only [Act.put, List.setIfInBounds_toArray, List.set_cons_zero, List.set_cons_succ, List.getElem_toArray, List.getElem_cons_zero, List.getElem_cons_succ]
              refine wpAnyH_take (i := 10) (v := ?v87) rfl (by kernel_rfl) (by kernel_rfl) (by kernel_rfl) (fun _ _ _ h => h) (Or.inl ⟨by rfl, ?hy87⟩) hH ?rest87
              case hy87 => (intro w hSw; (try dsimp only at hSw); go_simp; try with_reducible rfl)
              try simp only [Act.put, List.setIfInBounds_toArray, List.set_cons_zero, List.set_cons_succ, List.getElem_toArray, List.getElem_cons_zero, List.getElem_cons_succ]
              refine wpAnyH_take (i := 6) (v := ?v88) rfl (by kernel_rfl) (by kernel_rfl) (by kernel_rfl) (fun _ _ _ h => h) (Or.inl ⟨by rfl, ?hy88⟩) hH ?rest88
              case hy88 => (intro w hSw; (try dsimp only at hSw); go_simp; try with_reducible rfl)
              try simp only [Act.put, List.setIfInBounds_toArray, List.set_cons_zero, List.set_cons_succ, List.getElem_toArray, List.getElem_cons_zero, List.getElem_cons_succ]
              refine wpAnyH_take (i := 11) (v := ?v89) rfl (by kernel_rfl) (by kernel_rfl) (by kernel_rfl) (fun _ _ _ h => h) (Or.inl ⟨by rfl, ?hy89⟩) hH ?rest89
              case hy89 => (intro w hSw; (try dsimp only at hSw); go_simp; try with_reducible rfl)
              try simp only [Act.put, List.setIfInBounds_toArray, List.set_cons_zero, List.set_cons_succ, List.getElem_toArray, List.getElem_cons_zero, List.getElem_cons_succ]
              refine wpAnyH_take (i := 7) (v := ?v90) rfl (by kernel_rfl) (by kernel_rfl) (by kernel_rfl) (fun _ _ _ h => h) (Or.inl ⟨by rfl, ?hy90⟩) hH ?rest90
              case hy90 => (intro w hSw; (try dsimp only at hSw); obtain ⟨g0, g1⟩ := SB.out w hSw; go_simp; try with_reducible rfl)
              try simp only [Act.put, List.setIfInBounds_toArray, List.set_cons_zero, List.set_cons_succ, List.getElem_toArray, List.getElem_cons_zero, List.getElem_cons_succ]
              refine wpAnyH_take (i := 12) (v := ?v91) rfl (by kernel_rfl) (by kernel_rfl) (by kernel_rfl) (fun _ _ _ h => h) (Or.inl ⟨by rfl, ?hy91⟩) hH ?rest91
              case hy91 => (intro w hSw; (try dsimp only at hSw); obtain ⟨g0, g1⟩ := SB.out w hSw; go_simp; try with_reducible rfl)
              try simp only [Act.put, List.setIfInBounds_toArray, List.set_cons_zero, List.set_cons_succ, List.getElem_toArray, List.getElem_cons_zero, List.getElem_cons_succ]
              refine wpAnyH_ready (rs := [13]) (by kernel_rfl) (by simp) ?_
              refine AllReadyH.cons rfl (fun K hK => ?_) AllReadyH.nil
              go_simp
              go_at_call 22
              with_reducible refine (HR6 _ hH).out.mono ?_
              rintro e wq92 ⟨rfl, bq92⟩
              go_wp2_with fail
              refine hK.out _ _ (hH.trans (bq92.mono hH.size)) (fun hH2 => ?_)
              clear hK K hH
              have hH := hH2
              clear hH2
              try simp only [Act.put, List.setIfInBounds_toArray, List.set_cons_zero, List.set_cons_succ, List.getElem_toArray, List.getElem_cons_zero, List.getElem_cons_succ]
              refine wpAnyH_take (i := 14) (v := ?v93) rfl (by kernel_rfl) (by kernel_rfl) (by kernel_rfl) (fun _ _ _ h => h) (Or.inl ⟨by rfl, ?hy93⟩) hH ?rest93
              case hy93 => (intro w hSw; (try dsimp only at hSw); go_simp; try with_reducible rfl)
              try simp only [Act.put, List.setIfInBounds_toArray, List.set_cons_zero, List.set_cons_succ, List.getElem_toArray, List.getElem_cons_zero, List.getElem_cons_succ]
              refine wpAnyH_done (by kernel_rfl) ?_ _
              have HB7 := Lib.hid (HB6.out.trans (hH.mono HB6.out.size))
              clear HR6 SB BD HB6 hH
              generalize wq92 = w7 at *
              go_wp2_with fail
              have SB : Hid (∀ V, Below w7.heap.size w7 V → V.cell? ⟨b5, off5 + j * 2, none⟩ = some (.int .i64 (a : Int)) ∧ V.cell? ⟨b5, off5 + j * 2 + 1, none⟩ = some (.int .i64 (d : Int)) ∧ V.cell? ⟨b, off + a * 4, none⟩ = some (.int .i64 xb) ∧ V.cell? ⟨b, off + a * 4 + 1, none⟩ = some (.int .i64 xs) ∧ V.cell? ⟨b, off + a * 4 + 2, none⟩ = some (.int .i64 xq) ∧ V.cell? ⟨b, off + a * 4 + 3, none⟩ = some (.slice xh xd.length xc) ∧ V.cell? ⟨b, off + d * 4, none⟩ = some (.int .i64 yb) ∧ V.cell? ⟨b, off + d * 4 + 1, none⟩ = some (.int .i64 ys) ∧ V.cell? ⟨b, off + d * 4 + 2, none⟩ = some (.int .i64 yq) ∧ V.cell? ⟨b, off + d * 4 + 3, none⟩ = some (.slice yh yd.length yc)) := Lib.hid (fun V g => HCc.out V (HB7.out.trans (g.mono HB7.out.size)))
              have BD : Hid (Below w7.heap.size w7 w7.drew) := (Below.refl _ _).drew
              have HL7 := HLs
              refine wp_region_held_drew (S := fun v => Below w7.heap.size w7 v) (by kernel_rfl) BD.out (fun hH => ?_)
              refine wpAnyH_take (i := 0) (v := ?v94) rfl (by kernel_rfl) (by kernel_rfl) (by kernel_rfl) (fun _ _ _ h => h) (Or.inl ⟨by rfl, ?hy94⟩) hH ?rest94
              case hy94 => (intro w hSw; (try dsimp only at hSw); go_simp; try with_reducible rfl)
              try simp only [Act.put, List.setIfInBounds_toArray, List.set_cons_zero, List.set_cons_succ, List.getElem_toArray, List.getElem_cons_zero]
              refine wpAnyH_take (i := 1) (v := ?v95) rfl (by kernel_rfl) (by kernel_rfl) (by kernel_rfl) (fun _ _ _ h => h) (Or.inl ⟨by rfl, ?hy95⟩) hH ?rest95
              case hy95 => (intro w hSw; (try dsimp only at hSw); go_simp; try with_reducible rfl)
              try simp only [Act.put, List.setIfInBounds_toArray, List.set_cons_zero, List.set_cons_succ, List.getElem_toArray, List.getElem_cons_zero, List.getElem_cons_succ]
              refine wpAnyH_take (i := 2) (v := ?v96) rfl (by kernel_rfl) (by kernel_rfl) (by kernel_rfl) (fun _ _ _ h => h) (Or.inl ⟨by rfl, ?hy96⟩) hH ?rest96
              case hy96 => (intro w hSw; (try dsimp only at hSw); go_simp; try with_reducible rfl)
              try simp only [Act.put, List.setIfInBounds_toArray, List.set_cons_zero, List.set_cons_succ, List.getElem_toArray, List.getElem_cons_zero, List.getElem_cons_succ]
              refine wpAnyH_take (i := 3) (v := ?v97) rfl (by kernel_rfl) (by kernel_rfl) (by kernel_rfl) (fun _ _ _ h => h) (Or.inl ⟨by rfl, ?hy97⟩) hH ?rest97
              case hy97 => (intro w hSw; (try dsimp only at hSw); go_simp; try with_reducible rfl)
              try simp only [Act.put, List.setIfInBounds_toArray, List.set_cons_zero, List.set_cons_succ, List.getElem_toArray, List.getElem_cons_zero, List.getElem_cons_succ]
              refine wpAnyH_take (i := 4) (v := ?v98) rfl (by kernel_rfl) (by kernel_rfl) (by kernel_rfl) (fun _ _ _ h => h) (Or.inl ⟨by rfl, ?hy98⟩) hH ?rest98
              case hy98 => (intro w hSw; (try dsimp only at hSw); go_simp; try with_reducible rfl)
              try simp only [Act.put, List.setIfInBounds_toArray, List.set_cons_zero, List.set_cons_succ, List.getElem_toArray, List.getElem_cons_zero, List.getElem_cons_succ]
              refine wpAnyH_take (i := 5) (v := ?v99) rfl (by kernel_rfl) (by kernel_rfl) (by kernel_rfl) (fun _ _ _ h => h) (Or.inl ⟨by rfl, ?hy99⟩) hH ?rest99
              case hy99 => (intro w hSw; (try dsimp only at hSw); go_simp; try with_reducible rfl)
              try simp only [Act.put, List.setIfInBounds_toArray, List.set_cons_zero, List.set_cons_succ, List.getElem_toArray, List.getElem_cons_zero, List.getElem_cons_succ]
              refine wpAnyH_take (i := 6) (v := undef) rfl (by kernel_rfl) (by kernel_rfl) (by kernel_rfl) (fun _ _ _ h => h) (Or.inr ⟨by rfl, rfl⟩) hH ?rest100
              try simp only [Act.put, List.setIfInBounds_toArray, List.set_cons_zero, List.set_cons_succ, List.getElem_toArray, List.getElem_cons_zero, List.getElem_cons_succ]
              refine wpAnyH_take (i := 7) (v := undef) rfl (by kernel_rfl) (by kernel_rfl) (by kernel_rfl) (fun _ _ _ h => h) (Or.inr ⟨by rfl, rfl⟩) hH ?rest101
              try simp only [Act.put, List.setIfInBounds_toArray, List.set_cons_zero, List.set_cons_succ, List.getElem_toArray, List.getElem_cons_zero, List.getElem_cons_succ]
              refine wpAnyH_take (i := 9) (v := undef) rfl (by kernel_rfl) (by kernel_rfl) (by kernel_rfl) (fun _ _ _ h => h) (Or.inr ⟨by rfl, rfl⟩) hH ?rest102
              try simp only [Act.put, List.setIfInBounds_toArray, List.set_cons_zero, List.set_cons_succ, List.getElem_toArray, List.getElem_cons_zero, List.getElem_cons_succ]
              refine wpAnyH_take (i := 10) (v := undef) rfl (by kernel_rfl) (by kernel_rfl) (by kernel_rfl) (fun _ _ _ h => h) (Or.inr ⟨by rfl, rfl⟩) hH ?rest103
              try simp only [Act.put, List.setIfInBounds_toArray, List.set_cons_zero, List.set_cons_succ, List.getElem_toArray, List.getElem_cons_zero, List.getElem_cons_succ]
              refine wpAnyH_take (i := 11) (v := undef) rfl (by kernel_rfl) (by kernel_rfl) (by kernel_rfl) (fun _ _ _ h => h) (Or.inr ⟨by rfl, rfl⟩) hH ?rest104
              try simp only [Act.put, List.setIfInBounds_toArray, List.set_cons_zero, List.set_cons_succ, List.getElem_toArray, List.getElem_cons_zero, List.getElem_cons_succ]
              refine wpAnyH_take (i := 17) (v := undef) rfl (by kernel_rfl) (by kernel_rfl) (by kernel_rfl) (fun _ _ _ h => h) (Or.inr ⟨by rfl, rfl⟩) hH ?rest105
              try simp only [Act.put, List.setIfInBounds_toArray, List.set_cons_zero, List.set_cons_succ, List.getElem_toArray, List.getElem_cons_zero, List.getElem_cons_succ]
              refine wpAnyH_take (i := 18) (v := undef) rfl (by kernel_rfl) (by kernel_rfl) (by kernel_rfl) (fun _ _ _ h => h) (Or.inr ⟨by rfl, rfl⟩) hH ?rest106
              try simp only [Act.put, List.setIfInBounds_toArray, List.set_cons_zero, List.set_cons_succ, List.getElem_toArray, List.getElem_cons_zero, List.getElem_cons_succ]
              refine wpAnyH_take (i := 19) (v := undef) rfl (by kernel_rfl) (by kernel_rfl) (by kernel_rfl) (fun _ _ _ h => h) (Or.inr ⟨by rfl, rfl⟩) hH ?rest107
              try simp only [Act.put, List.setIfInBounds_toArray, List.set_cons_zero, List.set_cons_succ, List.getElem_toArray, List.getElem_cons_zero, List.getElem_cons_succ]
              refine wpAnyH_take (i := 8) (v := undef) rfl (by kernel_rfl) (by kernel_rfl) (by kernel_rfl) (fun _ _ _ h => h) (Or.inr ⟨by rfl, rfl⟩) hH ?rest108
              try simp only [Act.put, List.setIfInBounds_toArray, List.set_cons_zero, List.set_cons_succ, List.getElem_toArray, List.getElem_cons_zero, List.getElem_cons_succ]
              refine wpAnyH_take (i := 12) (v := undef) rfl (by kernel_rfl) (by kernel_rfl) (by kernel_rfl) (fun _ _ _ h => h) (Or.inr ⟨by rfl, rfl⟩) hH ?rest109
              try simp only [Act.put, List.setIfInBounds_toArray, List.set_cons_zero, List.set_cons_succ, List.getElem_toArray, List.getElem_cons_zero, List.getElem_cons_succ]
              refine wpAnyH_take (i := 20) (v := undef) rfl (by kernel_rfl) (by kernel_rfl) (by kernel_rfl) (fun _ _ _ h => h) (Or.inr ⟨by rfl, rfl⟩) hH ?rest110
              try simp only [Act.put, List.setIfInBounds_toArray, List.set_cons_zero, List.set_cons_succ, List.getElem_toArray, List.getElem_cons_zero, List.getElem_cons_succ]
              refine wpAnyH_take (i := 13) (v := undef) rfl (by kernel_rfl) (by kernel_rfl) (by kernel_rfl) (fun _ _ _ h => h) (Or.inr ⟨by rfl, rfl⟩) hH ?rest111
              try simp only [Act.put, List.setIfInBounds_toArray, List.set_cons_zero, List.set_cons_succ, List.getElem_toArray, List.getElem_cons_zero, List.getElem_cons_succ]
              refine wpAnyH_take (i := 21) (v := undef) rfl (by kernel_rfl) (by kernel_rfl) (by kernel_rfl) (fun _ _ _ h => h) (Or.inr ⟨by rfl, rfl⟩) hH ?rest112
              try simp only [Act.put, List.setIfInBounds_toArray, List.set_cons_zero, List.set_cons_succ, List.getElem_toArray, List.getElem_cons_zero, List.getElem_cons_succ]
              refine wpAnyH_take (i := 14) (v := undef) rfl (by kernel_rfl) (by kernel_rfl) (by kernel_rfl) (fun _ _ _ h => h) (Or.inr ⟨by rfl, rfl⟩) hH ?rest113
              try simp only [Act.put, List.setIfInBounds_toArray, List.set_cons_zero, List.set_cons_succ, List.getElem_toArray, List.getElem_cons_zero, List.getElem_cons_succ]
              refine wpAnyH_take (i := 22) (v := undef) rfl (by kernel_rfl) (by kernel_rfl) (by kernel_rfl) (fun _ _ _ h => h) (Or.inr ⟨by rfl, rfl⟩) hH ?rest114
              try simp only [Act.put, List.setIfInBounds_toArray, List.set_cons_zero, List.set_cons_succ, List.getElem_toArray, List.getElem_cons_zero, List.getElem_cons_succ]
              refine wpAnyH_take (i := 15) (v := undef) rfl (by kernel_rfl) (by kernel_rfl) (by kernel_rfl) (fun _ _ _ h => h) (Or.inr ⟨by rfl, rfl⟩) hH ?rest115
              try simp only [Act.put, List.setIfInBounds_toArray, List.set_cons_zero, List.set_cons_succ, List.getElem_toArray, List.getElem_cons_zero, List.getElem_cons_succ]
              refine wpAnyH_take (i := 23) (v := undef) rfl (by kernel_rfl) (by kernel_rfl) (by kernel_rfl) (fun _ _ _ h => h) (Or.inr ⟨by rfl, rfl⟩) hH ?rest116
              try simp only [Act.put, List.setIfInBounds_toArray, List.set_cons_zero, List.set_cons_succ, List.getElem_toArray, List.getElem_cons_zero, List.getElem_cons_succ]
              refine wpAnyH_take (i := 16) (v := undef) rfl (by kernel_rfl) (by kernel_rfl) (by kernel_rfl) (fun _ _ _ h => h) (Or.inr ⟨by rfl, rfl⟩) hH ?rest117
              try simp only [Act.put, List.setIfInBounds_toArray, List.set_cons_zero, List.set_cons_succ, List.getElem_toArray, List.getElem_cons_zero, List.getElem_cons_succ]
              refine wpAnyH_take (i := 24) (v := undef) rfl (by kernel_rfl) (by kernel_rfl) (by kernel_rfl) (fun _ _ _ h => h) (Or.inr ⟨by rfl, rfl⟩) hH ?rest118
              try simp only [Act.put, List.setIfInBounds_toArray, List.set_cons_zero, List.set_cons_succ, List.getElem_toArray, List.getElem_cons_zero, List.getElem_cons_succ]
              refine wpAnyH_take (i := 25) (v := undef) rfl (by kernel_rfl) (by kernel_rfl) (by kernel_rfl) (fun _ _ _ h => h) (Or.inr ⟨by rfl, rfl⟩) hH ?rest119
              try simp only [Act.put, List.setIfInBounds_toArray, List.set_cons_zero, List.set_cons_succ, List.getElem_toArray, List.getElem_cons_zero, List.getElem_cons_succ]
              refine wpAnyH_take (i := 26) (v := undef) rfl (by kernel_rfl) (by kernel_rfl) (by kernel_rfl) (fun _ _ _ h => h) (Or.inr ⟨by rfl, rfl⟩) hH ?rest120
              try simp only [Act.put, List.setIfInBounds_toArray, List.set_cons_zero, List.set_cons_succ, List.getElem_toArray, List.getElem_cons_zero, List.getElem_cons_succ]
              refine wpAnyH_take (i := 27) (v := ?v121) rfl (by kernel_rfl) (by kernel_rfl) (by kernel_rfl) (fun _ _ _ h => h) (Or.inl ⟨by rfl, ?hy121⟩) hH ?rest121
              case hy121 => (intro w hSw; (try dsimp only at hSw); go_simp; try with_reducible rfl)
              try simp only [Act.put, List.setIfInBounds_toArray, List.set_cons_zero, List.set_cons_succ, List.getElem_toArray, List.getElem_cons_zero, List.getElem_cons_succ]
              refine wpAnyH_take (i := 28) (v := ?v122) rfl (by kernel_rfl) (by kernel_rfl) (by kernel_rfl) (fun _ _ _ h => h) (Or.inl ⟨by rfl, ?hy122⟩) hH ?rest122
              case hy122 => (intro w hSw; (try dsimp only at hSw); go_simp; try with_reducible rfl)
              try simp only [Act.put, List.setIfInBounds_toArray, List.set_cons_zero, List.set_cons_succ, List.getElem_toArray, List.getElem_cons_zero, List.getElem_cons_succ]
              refine wpAnyH_take (i := 29) (v := undef) rfl (by kernel_rfl) (by kernel_rfl) (by kernel_rfl) (fun _ _ _ h => h) (Or.inr ⟨by rfl, rfl⟩) hH ?rest123
              try simp only [Act.put, List.setIfInBounds_toArray, List.set_cons_zero, List.set_cons_succ, List.getElem_toArray, List.getElem_cons_zero, List.getElem_cons_succ]
              refine wpAnyH_take (i := 30) (v := undef) rfl (by kernel_rfl) (by kernel_rfl) (by kernel_rfl) (fun _ _ _ h => h) (Or.inr ⟨by rfl, rfl⟩) hH ?rest124
              try simp only [Act.put, List.setIfInBounds_toArray, List.set_cons_zero, List.set_cons_succ, List.getElem_toArray, List.getElem_cons_zero, List.getElem_cons_succ]
              refine wpAnyH_take (i := 34) (v := undef) rfl (by kernel_rfl) (by kernel_rfl) (by kernel_rfl) (fun _ _ _ h => h) (Or.inr ⟨by rfl, rfl⟩) hH ?rest125
              try simp only [Act.put, List.setIfInBounds_toArray, List.set_cons_zero, List.set_cons_succ, List.getElem_toArray, List.getElem_cons_zero, List.getElem_cons_succ]
              refine wpAnyH_take (i := 35) (v := undef) rfl (by kernel_rfl) (by kernel_rfl) (by kernel_rfl) (fun _ _ _ h => h) (Or.inr ⟨by rfl, rfl⟩) hH ?rest126
              try simp only [Act.put, List.setIfInBounds_toArray, List.set_cons_zero, List.set_cons_succ, List.getElem_toArray, List.getElem_cons_zero, List.getElem_cons_succ]
              refine wpAnyH_take (i := 31) (v := undef) rfl (by kernel_rfl) (by kernel_rfl) (by kernel_rfl) (fun _ _ _ h => h) (Or.inr ⟨by rfl, rfl⟩) hH ?rest127
              try simp only [Act.put, List.setIfInBounds_toArray, List.set_cons_zero, List.set_cons_succ, List.getElem_toArray, List.getElem_cons_zero, List.getElem_cons_succ]
              refine wpAnyH_take (i := 36) (v := undef) rfl (by kernel_rfl) (by kernel_rfl) (by kernel_rfl) (fun _ _ _ h => h) (Or.inr ⟨by rfl, rfl⟩) hH ?rest128
              try simp only [Act.put, List.setIfInBounds_toArray, List.set_cons_zero, List.set_cons_succ, List.getElem_toArray, List.getElem_cons_zero, List.getElem_cons_succ]
              refine wpAnyH_take (i := 32) (v := undef) rfl (by kernel_rfl) (by kernel_rfl) (by kernel_rfl) (fun _ _ _ h => h) (Or.inr ⟨by rfl, rfl⟩) hH ?rest129
              try simp only [Act.put, List.setIfInBounds_toArray, List.set_cons_zero, List.set_cons_succ, List.getElem_toArray, List.getElem_cons_zero, List.getElem_cons_succ]
              refine wpAnyH_take (i := 37) (v := undef) rfl (by kernel_rfl) (by kernel_rfl) (by kernel_rfl) (fun _ _ _ h => h) (Or.inr ⟨by rfl, rfl⟩) hH ?rest130
              try simp only [Act.put, List.setIfInBounds_toArray, List.set_cons_zero, List.set_cons_succ, List.getElem_toArray, List.getElem_cons_zero, List.getElem_cons_succ]
              refine wpAnyH_take (i := 33) (v := undef) rfl (by kernel_rfl) (by kernel_rfl) (by kernel_rfl) (fun _ _ _ h => h) (Or.inr ⟨by rfl, rfl⟩) hH ?rest131
              try simp only [Act.put, List.setIfInBounds_toArray, List.set_cons_zero, List.set_cons_succ, List.getElem_toArray, List.getElem_cons_zero, List.getElem_cons_succ]
              refine wpAnyH_take (i := 38) (v := undef) rfl (by kernel_rfl) (by kernel_rfl) (by kernel_rfl) (fun _ _ _ h => h) (Or.inr ⟨by rfl, rfl⟩) hH ?rest132
              try simp only [Act.put, List.setIfInBounds_toArray, List.set_cons_zero, List.set_cons_succ, List.getElem_toArray, List.getElem_cons_zero, List.getElem_cons_succ]
              refine wpAnyH_take (i := 39) (v := undef) rfl (by kernel_rfl) (by kernel_rfl) (by kernel_rfl) (fun _ _ _ h => h) (Or.inr ⟨by rfl, rfl⟩) hH ?rest133
              try simp only [Act.put, List.setIfInBounds_toArray, List.set_cons_zero, List.set_cons_succ, List.getElem_toArray, List.getElem_cons_zero, List.getElem_cons_succ]
              refine wpAnyH_take (i := 40) (v := ?v134) rfl (by kernel_rfl) (by kernel_rfl) (by kernel_rfl) (fun _ _ _ h => h) (Or.inl ⟨by rfl, ?hy134⟩) hH ?rest134
              case hy134 => (intro w hSw; (try dsimp only at hSw); go_simp; try with_reducible rfl)
              try simp only [Act.put, List.setIfInBounds_toArray, List.set_cons_zero, List.set_cons_succ, List.getElem_toArray, List.getElem_cons_zero, List.getElem_cons_succ]
              refine wpAnyH_done (by kernel_rfl) ?_ _
              have HB8 := Lib.hid (HB7.out.trans (hH.mono HB7.out.size))
              clear HB7 HCc hH SB BD HL7
              go_wp2
              go_roundg (E.length - (j + 1))
              case measure => omega
              case rel => exact ⟨j + 1, by omega, by go_num, HB8.out⟩
            · have hls := hm2 rfl
              clear hm1 hm2
              generalize ls ⟨xb, xs, xq, xd, xh, xc⟩ ⟨yb, ys, yq, yd, yh, yc⟩ = r at *
              have t5 : decide (p < q) = r := by rw [← hls]; exact decide_eq_decide.2 (by omega)
              have SB : Hid (∀ V, Below w6.heap.size w6 V → V.cell? ⟨b5, off5 + j * 2, none⟩ = some (.int .i64 (a : Int)) ∧ V.cell? ⟨b5, off5 + j * 2 + 1, none⟩ = some (.int .i64 (d : Int))) := Lib.hid (fun V g => by
                obtain ⟨g0, g1, _⟩ := HCc.out V (HB6.out.trans (g.mono HB6.out.size))
                exact ⟨g0, g1⟩)
              have BD : Hid (Below w6.heap.size w6 w6.drew) := (Below.refl _ _).drew
              have HR6 : ∀ V, Below w6.heap.size w6 V → _ := fun V hV => HRx V (HB6.out.trans (hV.mono HB6.out.size))
              clear HRx
              go_wp2_with fail
              refine wp_region_held_drew (S := fun v => Below w6.heap.size w6 v) (by kernel_rfl) BD.out (fun hH => ?_)
              refine wpAnyH_take (i := 0) (v := ?v135) rfl (by kernel_rfl) (by kernel_rfl) (by kernel_rfl) (fun _ _ _ h => h) (Or.inl ⟨by rfl, ?hy135⟩) hH ?rest135
              case hy135 => (intro w hSw; (try dsimp only at hSw); go_simp; try with_reducible rfl)
              try simp only [Act.put, List.setIfInBounds_toArray, List.set_cons_zero, List.set_cons_succ, List.getElem_toArray, List.getElem_cons_zero]
              refine wpAnyH_take (i := 2) (v := ?v136) rfl (by kernel_rfl) (by kernel_rfl) (by kernel_rfl) (fun _ _ _ h => h) (Or.inl ⟨by rfl, ?hy136⟩) hH ?rest136
              case hy136 => (intro w hSw; (try dsimp only at hSw); go_simp; try with_reducible rfl)
              try simp only [Act.put, List.setIfInBounds_toArray, List.set_cons_zero, List.set_cons_succ, List.getElem_toArray, List.getElem_cons_zero, List.getElem_cons_succ]
              refine wpAnyH_take (i := 3) (v := ?v137) rfl (by kernel_rfl) (by kernel_rfl) (by kernel_rfl) (fun _ _ _ h => h) (Or.inl ⟨by rfl, ?hy137⟩) hH ?rest137
              case hy137 => (intro w hSw; (try dsimp only at hSw); go_simp; try with_reducible rfl)
              try simp only [Act.put, List.setIfInBounds_toArray, List.set_cons_zero, List.set_cons_succ, List.getElem_toArray, List.getElem_cons_zero, List.getElem_cons_succ]
              refine wpAnyH_take (i := 4) (v := ?v138) rfl (by kernel_rfl) (by kernel_rfl) (by kernel_rfl) (fun _ _ _ h => h) (Or.inl ⟨by rfl, ?hy138⟩) hH ?rest138
              case hy138 => (intro w hSw; (try dsimp only at hSw); go_simp; try with_reducible rfl)
              try simp only [Act.put, List.setIfInBounds_toArray, List.set_cons_zero, List.set_cons_succ, List.getElem_toArray, List.getElem_cons_zero, List.getElem_cons_succ]
              refine wpAnyH_take (i := 8) (v := ?v139) rfl (by kernel_rfl) (by kernel_rfl) (by kernel_rfl) (fun _ _ _ h => h) (Or.inl ⟨by rfl, ?hy139⟩) hH ?rest139
              case hy139 => (intro w hSw; (try dsimp only at hSw); go_simp; try with_reducible rfl)
              try simp only [Act.put, List.setIfInBounds_toArray, List.set_cons_zero, List.set_cons_succ, List.getElem_toArray, List.getElem_cons_zero, List.getElem_cons_succ]
              refine wpAnyH_take (i := 9) (v := ?v140) rfl (by kernel_rfl) (by kernel_rfl) (by kernel_rfl) (fun _ _ _ h => h) (Or.inl ⟨by rfl, ?hy140⟩) hH ?rest140
              case hy140 => (intro w hSw; (try dsimp only at hSw); go_simp; try with_reducible rfl)
              try simp only [Act.put, List.setIfInBounds_toArray, List.set_cons_zero, List.set_cons_succ, List.getElem_toArray, List.getElem_cons_zero, List.getElem_cons_succ]
              refine wpAnyH_take (i := 1) (v := ?v141) rfl (by kernel_rfl) (by kernel_rfl) (by kernel_rfl) (fun _ _ _ h => h) (Or.inl ⟨by rfl, ?hy141⟩) hH ?rest141
              case hy141 => (intro w hSw; (try dsimp only at hSw); go_simp; try with_reducible rfl)
              try simp only [Act.put, List.setIfInBounds_toArray, List.set_cons_zero, List.set_cons_succ, List.getElem_toArray, List.getElem_cons_zero, List.getElem_cons_succ]
              refine wpAnyH_take (i := 5) (v := ?v142) rfl (by kernel_rfl) (by kernel_rfl) (by kernel_rfl) (fun _ _ _ h => h) (Or.inl ⟨by rfl, ?hy142⟩) hH ?rest142
              case hy142 => (intro w hSw; (try dsimp only at hSw); go_simp; try with_reducible rfl)
              try simp only [Act.put, List.setIfInBounds_toArray, List.set_cons_zero, List.set_cons_succ, List.getElem_toArray, List.getElem_cons_zero, List.getElem_cons_succ]
              refine wpAnyH_take (i := 10) (v := ?v143) rfl (by kernel_rfl) (by kernel_rfl) (by kernel_rfl) (fun _ _ _ h => h) (Or.inl ⟨by rfl, ?hy143⟩) hH ?rest143
              case hy143 => (intro w hSw; (try dsimp only at hSw); go_simp; try with_reducible rfl)
              try simp only [Act.put, List.setIfInBounds_toArray, List.set_cons_zero, List.set_cons_succ, List.getElem_toArray, List.getElem_cons_zero, List.getElem_cons_succ]
              refine wpAnyH_take (i := 6) (v := ?v144) rfl (by kernel_rfl) (by kernel_rfl) (by kernel_rfl) (fun _ _ _ h => h) (Or.inl ⟨by rfl, ?hy144⟩) hH ?rest144
              case hy144 => (intro w hSw; (try dsimp only at hSw); go_simp; try with_reducible rfl)
              try simp only [Act.put, List.setIfInBounds_toArray, List.set_cons_zero, List.set_cons_succ, List.getElem_toArray, List.getElem_cons_zero, List.getElem_cons_succ]
              refine wpAnyH_take (i := 11) (v := ?v145) rfl (by kernel_rfl) (by kernel_rfl) (by kernel_rfl) (fun _ _ _ h => h) (Or.inl ⟨by rfl, ?hy145⟩) hH ?rest145
              case hy145 => (intro w hSw; (try dsimp only at hSw); go_simp; try with_reducible rfl)
              try simp only [Act.put, List.setIfInBounds_toArray, List.set_cons_zero, List.set_cons_succ, List.getElem_toArray, List.getElem_cons_zero, List.getElem_cons_succ]
              refine wpAnyH_take (i := 7) (v := ?v146) rfl (by kernel_rfl) (by kernel_rfl) (by kernel_rfl) (fun _ _ _ h => h) (Or.inl ⟨by rfl, ?hy146⟩) hH ?rest146
              case hy146 => (intro w hSw; (try dsimp only at hSw); obtain ⟨g0, g1⟩ := SB.out w hSw; go_simp; try with_reducible rfl)
              try simp only [Act.put, List.setIfInBounds_toArray, List.set_cons_zero, List.set_cons_succ, List.getElem_toArray, List.getElem_cons_zero, List.getElem_cons_succ]
              refine wpAnyH_take (i := 12) (v := ?v147) rfl (by kernel_rfl) (by kernel_rfl) (by kernel_rfl) (fun _ _ _ h => h) (Or.inl ⟨by rfl, ?hy147⟩) hH ?rest147
              case hy147 => (intro w hSw; (try dsimp only at hSw); obtain ⟨g0, g1⟩ := SB.out w hSw; go_simp; try with_reducible rfl)
              try simp only [Act.put, List.setIfInBounds_toArray, List.set_cons_zero, List.set_cons_succ, List.getElem_toArray, List.getElem_cons_zero, List.getElem_cons_succ]
              refine wpAnyH_ready (rs := [13]) (by kernel_rfl) (by simp) ?_
              refine AllReadyH.cons rfl (fun K hK => ?_) AllReadyH.nil
              go_simp
              go_at_call 22
              with_reducible refine (HR6 _ hH).out.mono ?_
              rintro e wq148 ⟨rfl, bq148⟩
              go_wp2_with fail
              refine hK.out _ _ (hH.trans (bq148.mono hH.size)) (fun hH2 => ?_)
              clear hK K hH
              have hH := hH2
              clear hH2
              try simp only [Act.put, List.setIfInBounds_toArray, List.set_cons_zero, List.set_cons_succ, List.getElem_toArray, List.getElem_cons_zero, List.getElem_cons_succ]
              refine wpAnyH_take (i := 14) (v := ?v149) rfl (by kernel_rfl) (by kernel_rfl) (by kernel_rfl) (fun _ _ _ h => h) (Or.inl ⟨by rfl, ?hy149⟩) hH ?rest149
              case hy149 => (intro w hSw; (try dsimp only at hSw); go_simp; try with_reducible rfl)
              try simp only [Act.put, List.setIfInBounds_toArray, List.set_cons_zero, List.set_cons_succ, List.getElem_toArray, List.getElem_cons_zero, List.getElem_cons_succ]
              refine wpAnyH_done (by kernel_rfl) ?_ _
              have HB7 := Lib.hid (HB6.out.trans (hH.mono HB6.out.size))
              clear HR6 SB BD HB6 hH
              generalize wq148 = w7 at *
              rcases r with _ | _
              · go_wp2_with fail
                have SB : Hid (∀ V, Below w7.heap.size w7 V → V.cell? ⟨b5, off5 + j * 2, none⟩ = some (.int .i64 (a : Int)) ∧ V.cell? ⟨b5, off5 + j * 2 + 1, none⟩ = some (.int .i64 (d : Int)) ∧ V.cell? ⟨b, off + a * 4, none⟩ = some (.int .i64 xb) ∧ V.cell? ⟨b, off + a * 4 + 1, none⟩ = some (.int .i64 xs) ∧ V.cell? ⟨b, off + a * 4 + 2, none⟩ = some (.int .i64 xq) ∧ V.cell? ⟨b, off + a * 4 + 3, none⟩ = some (.slice xh xd.length xc) ∧ V.cell? ⟨b, off + d * 4, none⟩ = some (.int .i64 yb) ∧ V.cell? ⟨b, off + d * 4 + 1, none⟩ = some (.int .i64 ys) ∧ V.cell? ⟨b, off + d * 4 + 2, none⟩ = some (.int .i64 yq) ∧ V.cell? ⟨b, off + d * 4 + 3, none⟩ = some (.slice yh yd.length yc)) := Lib.hid (fun V g => HCc.out V (HB7.out.trans (g.mono HB7.out.size)))
                have BD : Hid (Below w7.heap.size w7 w7.drew) := (Below.refl _ _).drew
                have HL7 := HLs
                refine wp_region_held_drew (S := fun v => Below w7.heap.size w7 v) (by kernel_rfl) BD.out (fun hH => ?_)
                refine wpAnyH_take (i := 0) (v := ?v150) rfl (by kernel_rfl) (by kernel_rfl) (by kernel_rfl) (fun _ _ _ h => h) (Or.inl ⟨by rfl, ?hy150⟩) hH ?rest150
                case hy150 => (intro w hSw; (try dsimp only at hSw); go_simp; try with_reducible rfl)
                try simp only [Act.put, List.setIfInBounds_toArray, List.set_cons_zero, List.set_cons_succ, List.getElem_toArray, List.getElem_cons_zero]
                refine wpAnyH_take (i := 1) (v := ?v151) rfl (by kernel_rfl) (by kernel_rfl) (by kernel_rfl) (fun _ _ _ h => h) (Or.inl ⟨by rfl, ?hy151⟩) hH ?rest151
                case hy151 => (intro w hSw; (try dsimp only at hSw); go_simp; try with_reducible rfl)
                try simp only [Act.put, List.setIfInBounds_toArray, List.set_cons_zero, List.set_cons_succ, List.getElem_toArray, List.getElem_cons_zero, List.getElem_cons_succ]
                refine wpAnyH_take (i := 2) (v := ?v152) rfl (by kernel_rfl) (by kernel_rfl) (by kernel_rfl) (fun _ _ _ h => h) (Or.inl ⟨by rfl, ?hy152⟩) hH ?rest152
                case hy152 => (intro w hSw; (try dsimp only at hSw); go_simp; try with_reducible rfl)
                try simp only [Act.put, List.setIfInBounds_toArray, List.set_cons_zero, List.set_cons_succ, List.getElem_toArray, List.getElem_cons_zero, List.getElem_cons_succ]
                refine wpAnyH_take (i := 3) (v := ?v153) rfl (by kernel_rfl) (by kernel_rfl) (by kernel_rfl) (fun _ _ _ h => h) (Or.inl ⟨by rfl, ?hy153⟩) hH ?rest153
                case hy153 => (intro w hSw; (try dsimp only at hSw); go_simp; try with_reducible rfl)
                try simp only [Act.put, List.setIfInBounds_toArray, List.set_cons_zero, List.set_cons_succ, List.getElem_toArray, List.getElem_cons_zero, List.getElem_cons_succ]
                refine wpAnyH_take (i := 4) (v := ?v154) rfl (by kernel_rfl) (by kernel_rfl) (by kernel_rfl) (fun _ _ _ h => h) (Or.inl ⟨by rfl, ?hy154⟩) hH ?rest154
                case hy154 => (intro w hSw; (try dsimp only at hSw); go_simp; try with_reducible rfl)
                try simp only [Act.put, List.setIfInBounds_toArray, List.set_cons_zero, List.set_cons_succ, List.getElem_toArray, List.getElem_cons_zero, List.getElem_cons_succ]
                refine wpAnyH_take (i := 5) (v := ?v155) rfl (by kernel_rfl) (by kernel_rfl) (by kernel_rfl) (fun _ _ _ h => h) (Or.inl ⟨by rfl, ?hy155⟩) hH ?rest155
                case hy155 => (intro w hSw; (try dsimp only at hSw); go_simp; try with_reducible rfl)
                try simp only [Act.put, List.setIfInBounds_toArray, List.set_cons_zero, List.set_cons_succ, List.getElem_toArray, List.getElem_cons_zero, List.getElem_cons_succ]
                refine wpAnyH_take (i := 6) (v := ?v156) rfl (by kernel_rfl) (by kernel_rfl) (by kernel_rfl) (fun _ _ _ h => h) (Or.inl ⟨by rfl, ?hy156⟩) hH ?rest156
                case hy156 => (intro w hSw; (try dsimp only at hSw); go_simp; try with_reducible rfl)
                try simp only [Act.put, List.setIfInBounds_toArray, List.set_cons_zero, List.set_cons_succ, List.getElem_toArray, List.getElem_cons_zero, List.getElem_cons_succ]
                refine wpAnyH_take (i := 7) (v := ?v157) rfl (by kernel_rfl) (by kernel_rfl) (by kernel_rfl) (fun _ _ _ h => h) (Or.inl ⟨by rfl, ?hy157⟩) hH ?rest157
                case hy157 => (intro w hSw; (try dsimp only at hSw); go_simp; try with_reducible rfl)
                try simp only [Act.put, List.setIfInBounds_toArray, List.set_cons_zero, List.set_cons_succ, List.getElem_toArray, List.getElem_cons_zero, List.getElem_cons_succ]
                refine wpAnyH_take (i := 9) (v := ?v158) rfl (by kernel_rfl) (by kernel_rfl) (by kernel_rfl) (fun _ _ _ h => h) (Or.inl ⟨by rfl, ?hy158⟩) hH ?rest158
                case hy158 => (intro w hSw; (try dsimp only at hSw); go_simp; try with_reducible rfl)
                try simp only [Act.put, List.setIfInBounds_toArray, List.set_cons_zero, List.set_cons_succ, List.getElem_toArray, List.getElem_cons_zero, List.getElem_cons_succ]
                refine wpAnyH_take (i := 10) (v := ?v159) rfl (by kernel_rfl) (by kernel_rfl) (by kernel_rfl) (fun _ _ _ h => h) (Or.inl ⟨by rfl, ?hy159⟩) hH ?rest159
                case hy159 => (intro w hSw; (try dsimp only at hSw); go_simp; try with_reducible rfl)
                try simp only [Act.put, List.setIfInBounds_toArray, List.set_cons_zero, List.set_cons_succ, List.getElem_toArray, List.getElem_cons_zero, List.getElem_cons_succ]
                refine wpAnyH_take (i := 11) (v := ?v160) rfl (by kernel_rfl) (by kernel_rfl) (by kernel_rfl) (fun _ _ _ h => h) (Or.inl ⟨by rfl, ?hy160⟩) hH ?rest160
                case hy160 => (intro w hSw; (try dsimp only at hSw); go_simp; try with_reducible rfl)
                try simp only [Act.put, List.setIfInBounds_toArray, List.set_cons_zero, List.set_cons_succ, List.getElem_toArray, List.getElem_cons_zero, List.getElem_cons_succ]
                refine wpAnyH_take (i := 17) (v := ?v161) rfl (by kernel_rfl) (by kernel_rfl) (by kernel_rfl) (fun _ _ _ h => h) (Or.inl ⟨by rfl, ?hy161⟩) hH ?rest161
                case hy161 => (intro w hSw; (try dsimp only at hSw); go_simp; try with_reducible rfl)
                try simp only [Act.put, List.setIfInBounds_toArray, List.set_cons_zero, List.set_cons_succ, List.getElem_toArray, List.getElem_cons_zero, List.getElem_cons_succ]
                refine wpAnyH_take (i := 18) (v := ?v162) rfl (by kernel_rfl) (by kernel_rfl) (by kernel_rfl) (fun _ _ _ h => h) (Or.inl ⟨by rfl, ?hy162⟩) hH ?rest162
                case hy162 => (intro w hSw; (try dsimp only at hSw); go_simp; try with_reducible rfl)
                try simp only [Act.put, List.setIfInBounds_toArray, List.set_cons_zero, List.set_cons_succ, List.getElem_toArray, List.getElem_cons_zero, List.getElem_cons_succ]
                refine wpAnyH_take (i := 19) (v := ?v163) rfl (by kernel_rfl) (by kernel_rfl) (by kernel_rfl) (fun _ _ _ h => h) (Or.inl ⟨by rfl, ?hy163⟩) hH ?rest163
                case hy163 => (intro w hSw; (try dsimp only at hSw); go_simp; try with_reducible rfl)
                try simp only [Act.put, List.setIfInBounds_toArray, List.set_cons_zero, List.set_cons_succ, List.getElem_toArray, List.getElem_cons_zero, List.getElem_cons_succ]
                refine wpAnyH_take (i := 8) (v := ?v164) rfl (by kernel_rfl) (by kernel_rfl) (by kernel_rfl) (fun _ _ _ h => h) (Or.inl ⟨by rfl, ?hy164⟩) hH ?rest164
                case hy164 => (intro w hSw; (try dsimp only at hSw); go_simp; try with_reducible rfl)
                try simp only [Act.put, List.setIfInBounds_toArray, List.set_cons_zero, List.set_cons_succ, List.getElem_toArray, List.getElem_cons_zero, List.getElem_cons_succ]
                refine wpAnyH_take (i := 12) (v := ?v165) rfl (by kernel_rfl) (by kernel_rfl) (by kernel_rfl) (fun _ _ _ h => h) (Or.inl ⟨by rfl, ?hy165⟩) hH ?rest165
                case hy165 => (intro w hSw; (try dsimp only at hSw); go_simp; try with_reducible rfl)
                try simp only [Act.put, List.setIfInBounds_toArray, List.set_cons_zero, List.set_cons_succ, List.getElem_toArray, List.getElem_cons_zero, List.getElem_cons_succ]
                refine wpAnyH_take (i := 20) (v := ?v166) rfl (by kernel_rfl) (by kernel_rfl) (by kernel_rfl) (fun _ _ _ h => h) (Or.inl ⟨by rfl, ?hy166⟩) hH ?rest166
                case hy166 => (intro w hSw; (try dsimp only at hSw); go_simp; try with_reducible rfl)
                try simp only [Act.put, List.setIfInBounds_toArray, List.set_cons_zero, List.set_cons_succ, List.getElem_toArray, List.getElem_cons_zero, List.getElem_cons_succ]
                refine wpAnyH_take (i := 13) (v := ?v167) rfl (by kernel_rfl) (by kernel_rfl) (by kernel_rfl) (fun _ _ _ h => h) (Or.inl ⟨by rfl, ?hy167⟩) hH ?rest167
                case hy167 => (intro w hSw; (try dsimp only at hSw); go_simp; try with_reducible rfl)
                try simp only [Act.put, List.setIfInBounds_toArray, List.set_cons_zero, List.set_cons_succ, List.getElem_toArray, List.getElem_cons_zero, List.getElem_cons_succ]
                refine wpAnyH_take (i := 21) (v := ?v168) rfl (by kernel_rfl) (by kernel_rfl) (by kernel_rfl) (fun _ _ _ h => h) (Or.inl ⟨by rfl, ?hy168⟩) hH ?rest168
                case hy168 => (intro w hSw; (try dsimp only at hSw); go_simp; try with_reducible rfl)
                try simp only [Act.put, List.setIfInBounds_toArray, List.set_cons_zero, List.set_cons_succ, List.getElem_toArray, List.getElem_cons_zero, List.getElem_cons_succ]
                refine wpAnyH_take (i := 14) (v := ?v169) rfl (by kernel_rfl) (by kernel_rfl) (by kernel_rfl) (fun _ _ _ h => h) (Or.inl ⟨by rfl, ?hy169⟩) hH ?rest169
                case hy169 => (intro w hSw; (try dsimp only at hSw); obtain ⟨g0, g1, p0, p1, p2, p3, r0, r1, r2, r3⟩ := SB.out w hSw; go_simp; try with_reducible rfl)
                try simp only [Act.put, List.setIfInBounds_toArray, List.set_cons_zero, List.set_cons_succ, List.getElem_toArray, List.getElem_cons_zero, List.getElem_cons_succ]
                refine wpAnyH_take (i := 22) (v := ?v170) rfl (by kernel_rfl) (by kernel_rfl) (by kernel_rfl) (fun _ _ _ h => h) (Or.inl ⟨by rfl, ?hy170⟩) hH ?rest170
                case hy170 => (intro w hSw; (try dsimp only at hSw); obtain ⟨g0, g1, p0, p1, p2, p3, r0, r1, r2, r3⟩ := SB.out w hSw; go_simp; try with_reducible rfl)
                try simp only [Act.put, List.setIfInBounds_toArray, List.set_cons_zero, List.set_cons_succ, List.getElem_toArray, List.getElem_cons_zero, List.getElem_cons_succ]
                refine wpAnyH_take (i := 15) (v := ?v171) rfl (by kernel_rfl) (by kernel_rfl) (by kernel_rfl) (fun _ _ _ h => h) (Or.inl ⟨by rfl, ?hy171⟩) hH ?rest171
                case hy171 => (intro w hSw; (try dsimp only at hSw); go_simp; try with_reducible rfl)
                try simp only [Act.put, List.setIfInBounds_toArray, List.set_cons_zero, List.set_cons_succ, List.getElem_toArray, List.getElem_cons_zero, List.getElem_cons_succ]
                refine wpAnyH_take (i := 23) (v := ?v172) rfl (by kernel_rfl) (by kernel_rfl) (by kernel_rfl) (fun _ _ _ h => h) (Or.inl ⟨by rfl, ?hy172⟩) hH ?rest172
                case hy172 => (intro w hSw; (try dsimp only at hSw); go_simp; try with_reducible rfl)
                try simp only [Act.put, List.setIfInBounds_toArray, List.set_cons_zero, List.set_cons_succ, List.getElem_toArray, List.getElem_cons_zero, List.getElem_cons_succ]
                refine wpAnyH_take (i := 16) (v := ?v173) rfl (by kernel_rfl) (by kernel_rfl) (by kernel_rfl) (fun _ _ _ h => h) (Or.inl ⟨by rfl, ?hy173⟩) hH ?rest173
                case hy173 => (intro w hSw; (try dsimp only at hSw); obtain ⟨g0, g1, p0, p1, p2, p3, r0, r1, r2, r3⟩ := SB.out w hSw; go_simp; try with_reducible rfl)
                try simp only [Act.put, List.setIfInBounds_toArray, List.set_cons_zero, List.set_cons_succ, List.getElem_toArray, List.getElem_cons_zero, List.getElem_cons_succ]
                refine wpAnyH_take (i := 24) (v := ?v174) rfl (by kernel_rfl) (by kernel_rfl) (by kernel_rfl) (fun _ _ _ h => h) (Or.inl ⟨by rfl, ?hy174⟩) hH ?rest174
                case hy174 => (intro w hSw; (try dsimp only at hSw); obtain ⟨g0, g1, p0, p1, p2, p3, r0, r1, r2, r3⟩ := SB.out w hSw; go_simp; try with_reducible rfl)
                try simp only [Act.put, List.setIfInBounds_toArray, List.set_cons_zero, List.set_cons_succ, List.getElem_toArray, List.getElem_cons_zero, List.getElem_cons_succ]
                refine wpAnyH_ready (rs := [25]) (by kernel_rfl) (by simp) ?_
                refine AllReadyH.cons rfl (fun K hK => ?_) AllReadyH.nil
                go_simp
                go_at_call 16
                with_reducible refine (HL7 _).out.mono ?_
                rintro e wq175 ⟨rfl, bq175⟩
                go_wp2_with fail
                refine hK.out _ _ (hH.trans (bq175.mono hH.size)) (fun hH2 => ?_)
                clear hK K hH
                have hH := hH2
                clear hH2
                try simp only [Act.put, List.setIfInBounds_toArray, List.set_cons_zero, List.set_cons_succ, List.getElem_toArray, List.getElem_cons_zero, List.getElem_cons_succ]
                refine wpAnyH_take (i := 26) (v := ?v176) rfl (by kernel_rfl) (by kernel_rfl) (by kernel_rfl) (fun _ _ _ h => h) (Or.inl ⟨by rfl, ?hy176⟩) hH ?rest176
                case hy176 => (intro w hSw; (try dsimp only at hSw); go_simp; try with_reducible rfl)
                try simp only [Act.put, List.setIfInBounds_toArray, List.set_cons_zero, List.set_cons_succ, List.getElem_toArray, List.getElem_cons_zero, List.getElem_cons_succ]
                refine wpAnyH_take (i := 27) (v := ?v177) rfl (by kernel_rfl) (by kernel_rfl) (by kernel_rfl) (fun _ _ _ h => h) (Or.inl ⟨by rfl, ?hy177⟩) hH ?rest177
                case hy177 => (intro w hSw; (try dsimp only at hSw); go_simp; try with_reducible rfl)
                try simp only [Act.put, List.setIfInBounds_toArray, List.set_cons_zero, List.set_cons_succ, List.getElem_toArray, List.getElem_cons_zero, List.getElem_cons_succ]
                refine wpAnyH_take (i := 28) (v := ?v178) rfl (by kernel_rfl) (by kernel_rfl) (by kernel_rfl) (fun _ _ _ h => h) (Or.inl ⟨by rfl, ?hy178⟩) hH ?rest178
                case hy178 => (intro w hSw; (try dsimp only at hSw); go_simp; try with_reducible rfl)
                try simp only [Act.put, List.setIfInBounds_toArray, List.set_cons_zero, List.set_cons_succ, List.getElem_toArray, List.getElem_cons_zero, List.getElem_cons_succ]
                refine wpAnyH_take (i := 29) (v := undef) rfl (by kernel_rfl) (by kernel_rfl) (by kernel_rfl) (fun _ _ _ h => h) (Or.inr ⟨by rfl, rfl⟩) hH ?rest179
                try simp only [Act.put, List.setIfInBounds_toArray, List.set_cons_zero, List.set_cons_succ, List.getElem_toArray, List.getElem_cons_zero, List.getElem_cons_succ]
                refine wpAnyH_take (i := 30) (v := undef) rfl (by kernel_rfl) (by kernel_rfl) (by kernel_rfl) (fun _ _ _ h => h) (Or.inr ⟨by rfl, rfl⟩) hH ?rest180
                try simp only [Act.put, List.setIfInBounds_toArray, List.set_cons_zero, List.set_cons_succ, List.getElem_toArray, List.getElem_cons_zero, List.getElem_cons_succ]
                refine wpAnyH_take (i := 34) (v := undef) rfl (by kernel_rfl) (by kernel_rfl) (by kernel_rfl) (fun _ _ _ h => h) (Or.inr ⟨by rfl, rfl⟩) hH ?rest181
                try simp only [Act.put, List.setIfInBounds_toArray, List.set_cons_zero, List.set_cons_succ, List.getElem_toArray, List.getElem_cons_zero, List.getElem_cons_succ]
                refine wpAnyH_take (i := 35) (v := undef) rfl (by kernel_rfl) (by kernel_rfl) (by kernel_rfl) (fun _ _ _ h => h) (Or.inr ⟨by rfl, rfl⟩) hH ?rest182
                try simp only [Act.put, List.setIfInBounds_toArray, List.set_cons_zero, List.set_cons_succ, List.getElem_toArray, List.getElem_cons_zero, List.getElem_cons_succ]
                refine wpAnyH_take (i := 31) (v := undef) rfl (by kernel_rfl) (by kernel_rfl) (by kernel_rfl) (fun _ _ _ h => h) (Or.inr ⟨by rfl, rfl⟩) hH ?rest183
                try simp only [Act.put, List.setIfInBounds_toArray, List.set_cons_zero, List.set_cons_succ, List.getElem_toArray, List.getElem_cons_zero, List.getElem_cons_succ]
                refine wpAnyH_take (i := 36) (v := undef) rfl (by kernel_rfl) (by kernel_rfl) (by kernel_rfl) (fun _ _ _ h => h) (Or.inr ⟨by rfl, rfl⟩) hH ?rest184
                try simp only [Act.put, List.setIfInBounds_toArray, List.set_cons_zero, List.set_cons_succ, List.getElem_toArray, List.getElem_cons_zero, List.getElem_cons_succ]
                refine wpAnyH_take (i := 32) (v := undef) rfl (by kernel_rfl) (by kernel_rfl) (by kernel_rfl) (fun _ _ _ h => h) (Or.inr ⟨by rfl, rfl⟩) hH ?rest185
                try simp only [Act.put, List.setIfInBounds_toArray, List.set_cons_zero, List.set_cons_succ, List.getElem_toArray, List.getElem_cons_zero, List.getElem_cons_succ]
                refine wpAnyH_take (i := 37) (v := undef) rfl (by kernel_rfl) (by kernel_rfl) (by kernel_rfl) (fun _ _ _ h => h) (Or.inr ⟨by rfl, rfl⟩) hH ?rest186
                try simp only [Act.put, List.setIfInBounds_toArray, List.set_cons_zero, List.set_cons_succ, List.getElem_toArray, List.getElem_cons_zero, List.getElem_cons_succ]
                refine wpAnyH_take (i := 33) (v := undef) rfl (by kernel_rfl) (by kernel_rfl) (by kernel_rfl) (fun _ _ _ h => h) (Or.inr ⟨by rfl, rfl⟩) hH ?rest187
                try simp only [Act.put, List.setIfInBounds_toArray, List.set_cons_zero, List.set_cons_succ, List.getElem_toArray, List.getElem_cons_zero, List.getElem_cons_succ]
                refine wpAnyH_take (i := 38) (v := undef) rfl (by kernel_rfl) (by kernel_rfl) (by kernel_rfl) (fun _ _ _ h => h) (Or.inr ⟨by rfl, rfl⟩) hH ?rest188
                try simp only [Act.put, List.setIfInBounds_toArray, List.set_cons_zero, List.set_cons_succ, List.getElem_toArray, List.getElem_cons_zero, List.getElem_cons_succ]
                refine wpAnyH_take (i := 39) (v := undef) rfl (by kernel_rfl) (by kernel_rfl) (by kernel_rfl) (fun _ _ _ h => h) (Or.inr ⟨by rfl, rfl⟩) hH ?rest189
                try simp only [Act.put, List.setIfInBounds_toArray, List.set_cons_zero, List.set_cons_succ, List.getElem_toArray, List.getElem_cons_zero, List.getElem_cons_succ]
                refine wpAnyH_take (i := 40) (v := ?v190) rfl (by kernel_rfl) (by kernel_rfl) (by kernel_rfl) (fun _ _ _ h => h) (Or.inl ⟨by rfl, ?hy190⟩) hH ?rest190
                case hy190 => (intro w hSw; (try dsimp only at hSw); go_simp; try with_reducible rfl)
                try simp only [Act.put, List.setIfInBounds_toArray, List.set_cons_zero, List.set_cons_succ, List.getElem_toArray, List.getElem_cons_zero, List.getElem_cons_succ]
                refine wpAnyH_done (by kernel_rfl) ?_ _
                have HB8 := Lib.hid (HB7.out.trans (hH.mono HB7.out.size))
                clear HB7 HCc hH SB BD HL7
                go_wp2
                go_roundg (E.length - (j + 1))
                case measure => omega
                case rel => exact ⟨j + 1, by omega, by go_num, HB8.out⟩
              · go_wp2_with fail
                have SB : Hid (∀ V, Below w7.heap.size w7 V → V.cell? ⟨b5, off5 + j * 2, none⟩ = some (.int .i64 (a : Int)) ∧ V.cell? ⟨b5, off5 + j * 2 + 1, none⟩ = some (.int .i64 (d : Int)) ∧ V.cell? ⟨b, off + a * 4, none⟩ = some (.int .i64 xb) ∧ V.cell? ⟨b, off + a * 4 + 1, none⟩ = some (.int .i64 xs) ∧ V.cell? ⟨b, off + a * 4 + 2, none⟩ = some (.int .i64 xq) ∧ V.cell? ⟨b, off + a * 4 + 3, none⟩ = some (.slice xh xd.length xc) ∧ V.cell? ⟨b, off + d * 4, none⟩ = some (.int .i64 yb) ∧ V.cell? ⟨b, off + d * 4 + 1, none⟩ = some (.int .i64 ys) ∧ V.cell? ⟨b, off + d * 4 + 2, none⟩ = some (.int .i64 yq) ∧ V.cell? ⟨b, off + d * 4 + 3, none⟩ = some (.slice yh yd.length yc)) := Lib.hid (fun V g => HCc.out V (HB7.out.trans (g.mono HB7.out.size)))
                have BD : Hid (Below w7.heap.size w7 w7.drew) := (Below.refl _ _).drew
                have HL7 := HLs
                refine wp_region_held_drew (S := fun v => Below w7.heap.size w7 v) (by kernel_rfl) BD.out (fun hH => ?_)
                refine wpAnyH_take (i := 0) (v := ?v191) rfl (by kernel_rfl) (by kernel_rfl) (by kernel_rfl) (fun _ _ _ h => h) (Or.inl ⟨by rfl, ?hy191⟩) hH ?rest191
                case hy191 => (intro w hSw; (try dsimp only at hSw); go_simp; try with_reducible rfl)
                try simp only [Act.put, List.setIfInBounds_toArray, List.set_cons_zero, List.set_cons_succ, List.getElem_toArray, List.getElem_cons_zero]
                refine wpAnyH_take (i := 1) (v := ?v192) rfl (by kernel_rfl) (by kernel_rfl) (by kernel_rfl) (fun _ _ _ h => h) (Or.inl ⟨by rfl, ?hy192⟩) hH ?rest192
                case hy192 => (intro w hSw; (try dsimp only at hSw); go_simp; try with_reducible rfl)
                try simp only [Act.put, List.setIfInBounds_toArray, List.set_cons_zero, List.set_cons_succ, List.getElem_toArray, List.getElem_cons_zero, List.getElem_cons_succ]
                refine wpAnyH_take (i := 2) (v := ?v193) rfl (by kernel_rfl) (by kernel_rfl) (by kernel_rfl) (fun _ _ _ h => h) (Or.inl ⟨by rfl, ?hy193⟩) hH ?rest193
                case hy193 => (intro w hSw; (try dsimp only at hSw); go_simp; try with_reducible rfl)
                try simp only [Act.put, List.setIfInBounds_toArray, List.set_cons_zero, List.set_cons_succ, List.getElem_toArray, List.getElem_cons_zero, List.getElem_cons_succ]
                refine wpAnyH_take (i := 3) (v := ?v194) rfl (by kernel_rfl) (by kernel_rfl) (by kernel_rfl) (fun _ _ _ h => h) (Or.inl ⟨by rfl, ?hy194⟩) hH ?rest194
                case hy194 => (intro w hSw; (try dsimp only at hSw); go_simp; try with_reducible rfl)
                try simp only [Act.put, List.setIfInBounds_toArray, List.set_cons_zero, List.set_cons_succ, List.getElem_toArray, List.getElem_cons_zero, List.getElem_cons_succ]
                refine wpAnyH_take (i := 4) (v := ?v195) rfl (by kernel_rfl) (by kernel_rfl) (by kernel_rfl) (fun _ _ _ h => h) (Or.inl ⟨by rfl, ?hy195⟩) hH ?rest195
                case hy195 => (intro w hSw; (try dsimp only at hSw); go_simp; try with_reducible rfl)
                try simp only [Act.put, List.setIfInBounds_toArray, List.set_cons_zero, List.set_cons_succ, List.getElem_toArray, List.getElem_cons_zero, List.getElem_cons_succ]
                refine wpAnyH_take (i := 5) (v := ?v196) rfl (by kernel_rfl) (by kernel_rfl) (by kernel_rfl) (fun _ _ _ h => h) (Or.inl ⟨by rfl, ?hy196⟩) hH ?rest196
                case hy196 => (intro w hSw; (try dsimp only at hSw); go_simp; try with_reducible rfl)
                try simp only [Act.put, List.setIfInBounds_toArray, List.set_cons_zero, List.set_cons_succ, List.getElem_toArray, List.getElem_cons_zero, List.getElem_cons_succ]
                refine wpAnyH_take (i := 6) (v := ?v197) rfl (by kernel_rfl) (by kernel_rfl) (by kernel_rfl) (fun _ _ _ h => h) (Or.inl ⟨by rfl, ?hy197⟩) hH ?rest197
                case hy197 => (intro w hSw; (try dsimp only at hSw); go_simp; try with_reducible rfl)
                try simp only [Act.put, List.setIfInBounds_toArray, List.set_cons_zero, List.set_cons_succ, List.getElem_toArray, List.getElem_cons_zero, List.getElem_cons_succ]
                refine wpAnyH_take (i := 7) (v := ?v198) rfl (by kernel_rfl) (by kernel_rfl) (by kernel_rfl) (fun _ _ _ h => h) (Or.inl ⟨by rfl, ?hy198⟩) hH ?rest198
                case hy198 => (intro w hSw; (try dsimp only at hSw); go_simp; try with_reducible rfl)
                try simp only [Act.put, List.setIfInBounds_toArray, List.set_cons_zero, List.set_cons_succ, List.getElem_toArray, List.getElem_cons_zero, List.getElem_cons_succ]
                refine wpAnyH_take (i := 9) (v := ?v199) rfl (by kernel_rfl) (by kernel_rfl) (by kernel_rfl) (fun _ _ _ h => h) (Or.inl ⟨by rfl, ?hy199⟩) hH ?rest199
                case hy199 => (intro w hSw; (try dsimp only at hSw); go_simp; try with_reducible rfl)
                try simp only [Act.put, List.setIfInBounds_toArray, List.set_cons_zero, List.set_cons_succ, List.getElem_toArray, List.getElem_cons_zero, List.getElem_cons_succ]
                refine wpAnyH_take (i := 10) (v := ?v200) rfl (by kernel_rfl) (by kernel_rfl) (by kernel_rfl) (fun _ _ _ h => h) (Or.inl ⟨by rfl, ?hy200⟩) hH ?rest200
                case hy200 => (intro w hSw; (try dsimp only at hSw); go_simp; try with_reducible rfl)
                try simp only [Act.put, List.setIfInBounds_toArray, List.set_cons_zero, List.set_cons_succ, List.getElem_toArray, List.getElem_cons_zero, List.getElem_cons_succ]
                refine wpAnyH_take (i := 11) (v := ?v201) rfl (by kernel_rfl) (by kernel_rfl) (by kernel_rfl) (fun _ _ _ h => h) (Or.inl ⟨by rfl, ?hy201⟩) hH ?rest201
                case hy201 => (intro w hSw; (try dsimp only at hSw); go_simp; try with_reducible rfl)
                try simp only [Act.put, List.setIfInBounds_toArray, List.set_cons_zero, List.set_cons_succ, List.getElem_toArray, List.getElem_cons_zero, List.getElem_cons_succ]
                refine wpAnyH_take (i := 17) (v := ?v202) rfl (by kernel_rfl) (by kernel_rfl) (by kernel_rfl) (fun _ _ _ h => h) (Or.inl ⟨by rfl, ?hy202⟩) hH ?rest202
                case hy202 => (intro w hSw; (try dsimp only at hSw); go_simp; try with_reducible rfl)
                try simp only [Act.put, List.setIfInBounds_toArray, List.set_cons_zero, List.set_cons_succ, List.getElem_toArray, List.getElem_cons_zero, List.getElem_cons_succ]
                refine wpAnyH_take (i := 18) (v := ?v203) rfl (by kernel_rfl) (by kernel_rfl) (by kernel_rfl) (fun _ _ _ h => h) (Or.inl ⟨by rfl, ?hy203⟩) hH ?rest203
                case hy203 => (intro w hSw; (try dsimp only at hSw); go_simp; try with_reducible rfl)
                try simp only [Act.put, List.setIfInBounds_toArray, List.set_cons_zero, List.set_cons_succ, List.getElem_toArray, List.getElem_cons_zero, List.getElem_cons_succ]
                refine wpAnyH_take (i := 19) (v := ?v204) rfl (by kernel_rfl) (by kernel_rfl) (by kernel_rfl) (fun _ _ _ h => h) (Or.inl ⟨by rfl, ?hy204⟩) hH ?rest204
                case hy204 => (intro w hSw; (try dsimp only at hSw); go_simp; try with_reducible rfl)
                try simp only [Act.put, List.setIfInBounds_toArray, List.set_cons_zero, List.set_cons_succ, List.getElem_toArray, List.getElem_cons_zero, List.getElem_cons_succ]
                refine wpAnyH_take (i := 8) (v := ?v205) rfl (by kernel_rfl) (by kernel_rfl) (by kernel_rfl) (fun _ _ _ h => h) (Or.inl ⟨by rfl, ?hy205⟩) hH ?rest205
                case hy205 => (intro w hSw; (try dsimp only at hSw); go_simp; try with_reducible rfl)
                try simp only [Act.put, List.setIfInBounds_toArray, List.set_cons_zero, List.set_cons_succ, List.getElem_toArray, List.getElem_cons_zero, List.getElem_cons_succ]
                refine wpAnyH_take (i := 12) (v := ?v206) rfl (by kernel_rfl) (by kernel_rfl) (by kernel_rfl) (fun _ _ _ h => h) (Or.inl ⟨by rfl, ?hy206⟩) hH ?rest206
                case hy206 => (intro w hSw; (try dsimp only at hSw); go_simp; try with_reducible rfl)
                try simp only [Act.put, List.setIfInBounds_toArray, List.set_cons_zero, List.set_cons_succ, List.getElem_toArray, List.getElem_cons_zero, List.getElem_cons_succ]
                refine wpAnyH_take (i := 20) (v := ?v207) rfl (by kernel_rfl) (by kernel_rfl) (by kernel_rfl) (fun _ _ _ h => h) (Or.inl ⟨by rfl, ?hy207⟩) hH ?rest207
                case hy207 => (intro w hSw; (try dsimp only at hSw); go_simp; try with_reducible rfl)
                try simp only [Act.put, List.setIfInBounds_toArray, List.set_cons_zero, List.set_cons_succ, List.getElem_toArray, List.getElem_cons_zero, List.getElem_cons_succ]
                refine wpAnyH_take (i := 13) (v := ?v208) rfl (by kernel_rfl) (by kernel_rfl) (by kernel_rfl) (fun _ _ _ h => h) (Or.inl ⟨by rfl, ?hy208⟩) hH ?rest208
                case hy208 => (intro w hSw; (try dsimp only at hSw); go_simp; try with_reducible rfl)
                try simp only [Act.put, List.setIfInBounds_toArray, List.set_cons_zero, List.set_cons_succ, List.getElem_toArray, List.getElem_cons_zero, List.getElem_cons_succ]
                refine wpAnyH_take (i := 21) (v := ?v209) rfl (by kernel_rfl) (by kernel_rfl) (by kernel_rfl) (fun _ _ _ h => h) (Or.inl ⟨by rfl, ?hy209⟩) hH ?rest209
                case hy209 => (intro w hSw; (try dsimp only at hSw); go_simp; try with_reducible rfl)
                try simp only [Act.put, List.setIfInBounds_toArray, List.set_cons_zero, List.set_cons_succ, List.getElem_toArray, List.getElem_cons_zero, List.getElem_cons_succ]
                refine wpAnyH_take (i := 14) (v := ?v210) rfl (by kernel_rfl) (by kernel_rfl) (by kernel_rfl) (fun _ _ _ h => h) (Or.inl ⟨by rfl, ?hy210⟩) hH ?rest210
                case hy210 => (intro w hSw; (try dsimp only at hSw); obtain ⟨g0, g1, p0, p1, p2, p3, r0, r1, r2, r3⟩ := SB.out w hSw; go_simp; try with_reducible rfl)
                try simp only [Act.put, List.setIfInBounds_toArray, List.set_cons_zero, List.set_cons_succ, List.getElem_toArray, List.getElem_cons_zero, List.getElem_cons_succ]
                refine wpAnyH_take (i := 22) (v := ?v211) rfl (by kernel_rfl) (by kernel_rfl) (by kernel_rfl) (fun _ _ _ h => h) (Or.inl ⟨by rfl, ?hy211⟩) hH ?rest211
                case hy211 => (intro w hSw; (try dsimp only at hSw); obtain ⟨g0, g1, p0, p1, p2, p3, r0, r1, r2, r3⟩ := SB.out w hSw; go_simp; try with_reducible rfl)
                try simp only [Act.put, List.setIfInBounds_toArray, List.set_cons_zero, List.set_cons_succ, List.getElem_toArray, List.getElem_cons_zero, List.getElem_cons_succ]
                refine wpAnyH_take (i := 15) (v := ?v212) rfl (by kernel_rfl) (by kernel_rfl) (by kernel_rfl) (fun _ _ _ h => h) (Or.inl ⟨by rfl, ?hy212⟩) hH ?rest212
                case hy212 => (intro w hSw; (try dsimp only at hSw); go_simp; try with_reducible rfl)
                try simp only [Act.put, List.setIfInBounds_toArray, List.set_cons_zero, List.set_cons_succ, List.getElem_toArray, List.getElem_cons_zero, List.getElem_cons_succ]
                refine wpAnyH_take (i := 23) (v := ?v213) rfl (by kernel_rfl) (by kernel_rfl) (by kernel_rfl) (fun _ _ _ h => h) (Or.inl ⟨by rfl, ?hy213⟩) hH ?rest213
                case hy213 => (intro w hSw; (try dsimp only at hSw); go_simp; try with_reducible rfl)
                try simp only [Act.put, List.setIfInBounds_toArray, List.set_cons_zero, List.set_cons_succ, List.getElem_toArray, List.getElem_cons_zero, List.getElem_cons_succ]
                refine wpAnyH_take (i := 16) (v := ?v214) rfl (by kernel_rfl) (by kernel_rfl) (by kernel_rfl) (fun _ _ _ h => h) (Or.inl ⟨by rfl, ?hy214⟩) hH ?rest214
                case hy214 => (intro w hSw; (try dsimp only at hSw); obtain ⟨g0, g1, p0, p1, p2, p3, r0, r1, r2, r3⟩ := SB.out w hSw; go_simp; try with_reducible rfl)
                try simp only [Act.put, List.setIfInBounds_toArray, List.set_cons_zero, List.set_cons_succ, List.getElem_toArray, List.getElem_cons_zero, List.getElem_cons_succ]
                refine wpAnyH_take (i := 24) (v := ?v215) rfl (by kernel_rfl) (by kernel_rfl) (by kernel_rfl) (fun _ _ _ h => h) (Or.inl ⟨by rfl, ?hy215⟩) hH ?rest215
                case hy215 => (intro w hSw; (try dsimp only at hSw); obtain ⟨g0, g1, p0, p1, p2, p3, r0, r1, r2, r3⟩ := SB.out w hSw; go_simp; try with_reducible rfl)
                try simp only [Act.put, List.setIfInBounds_toArray, List.set_cons_zero, List.set_cons_succ, List.getElem_toArray, List.getElem_cons_zero, List.getElem_cons_succ]
                refine wpAnyH_ready (rs := [25]) (by kernel_rfl) (by simp) ?_
                refine AllReadyH.cons rfl (fun K hK => ?_) AllReadyH.nil
                go_simp
                go_at_call 16
                with_reducible refine (HL7 _).out.mono ?_
                rintro e wq216 ⟨rfl, bq216⟩
                go_wp2_with fail
                refine hK.out _ _ (hH.trans (bq216.mono hH.size)) (fun hH2 => ?_)
                clear hK K hH
                have hH := hH2
                clear hH2
                try simp only [Act.put, List.setIfInBounds_toArray, List.set_cons_zero, List.set_cons_succ, List.getElem_toArray, List.getElem_cons_zero, List.getElem_cons_succ]
                refine wpAnyH_take (i := 26) (v := ?v217) rfl (by kernel_rfl) (by kernel_rfl) (by kernel_rfl) (fun _ _ _ h => h) (Or.inl ⟨by rfl, ?hy217⟩) hH ?rest217
                case hy217 => (intro w hSw; (try dsimp only at hSw); go_simp; try with_reducible rfl)
                try simp only [Act.put, List.setIfInBounds_toArray, List.set_cons_zero, List.set_cons_succ, List.getElem_toArray, List.getElem_cons_zero, List.getElem_cons_succ]
                refine wpAnyH_take (i := 27) (v := ?v218) rfl (by kernel_rfl) (by kernel_rfl) (by kernel_rfl) (fun _ _ _ h => h) (Or.inl ⟨by rfl, ?hy218⟩) hH ?rest218
                case hy218 => (intro w hSw; (try dsimp only at hSw); go_simp; try with_reducible rfl)
                try simp only [Act.put, List.setIfInBounds_toArray, List.set_cons_zero, List.set_cons_succ, List.getElem_toArray, List.getElem_cons_zero, List.getElem_cons_succ]
                refine wpAnyH_take (i := 28) (v := ?v219) rfl (by kernel_rfl) (by kernel_rfl) (by kernel_rfl) (fun _ _ _ h => h) (Or.inl ⟨by rfl, ?hy219⟩) hH ?rest219
                case hy219 => (intro w hSw; (try dsimp only at hSw); go_simp; try with_reducible rfl)
                try simp only [Act.put, List.setIfInBounds_toArray, List.set_cons_zero, List.set_cons_succ, List.getElem_toArray, List.getElem_cons_zero, List.getElem_cons_succ]
                refine wpAnyH_take (i := 29) (v := undef) rfl (by kernel_rfl) (by kernel_rfl) (by kernel_rfl) (fun _ _ _ h => h) (Or.inr ⟨by rfl, rfl⟩) hH ?rest220
                try simp only [Act.put, List.setIfInBounds_toArray, List.set_cons_zero, List.set_cons_succ, List.getElem_toArray, List.getElem_cons_zero, List.getElem_cons_succ]
                refine wpAnyH_take (i := 30) (v := undef) rfl (by kernel_rfl) (by kernel_rfl) (by kernel_rfl) (fun _ _ _ h => h) (Or.inr ⟨by rfl, rfl⟩) hH ?rest221
                try simp only [Act.put, List.setIfInBounds_toArray, List.set_cons_zero, List.set_cons_succ, List.getElem_toArray, List.getElem_cons_zero, List.getElem_cons_succ]
                refine wpAnyH_take (i := 34) (v := undef) rfl (by kernel_rfl) (by kernel_rfl) (by kernel_rfl) (fun _ _ _ h => h) (Or.inr ⟨by rfl, rfl⟩) hH ?rest222
                try simp only [Act.put, List.setIfInBounds_toArray, List.set_cons_zero, List.set_cons_succ, List.getElem_toArray, List.getElem_cons_zero, List.getElem_cons_succ]
                refine wpAnyH_take (i := 35) (v := undef) rfl (by kernel_rfl) (by kernel_rfl) (by kernel_rfl) (fun _ _ _ h => h) (Or.inr ⟨by rfl, rfl⟩) hH ?rest223
                try simp only [Act.put, List.setIfInBounds_toArray, List.set_cons_zero, List.set_cons_succ, List.getElem_toArray, List.getElem_cons_zero, List.getElem_cons_succ]
                refine wpAnyH_take (i := 31) (v := undef) rfl (by kernel_rfl) (by kernel_rfl) (by kernel_rfl) (fun _ _ _ h => h) (Or.inr ⟨by rfl, rfl⟩) hH ?rest224
                try simp only [Act.put, List.setIfInBounds_toArray, List.set_cons_zero, List.set_cons_succ, List.getElem_toArray, List.getElem_cons_zero, List.getElem_cons_succ]
                refine wpAnyH_take (i := 36) (v := undef) rfl (by kernel_rfl) (by kernel_rfl) (by kernel_rfl) (fun _ _ _ h => h) (Or.inr ⟨by rfl, rfl⟩) hH ?rest225
                try simp only [Act.put, List.setIfInBounds_toArray, List.set_cons_zero, List.set_cons_succ, List.getElem_toArray, List.getElem_cons_zero, List.getElem_cons_succ]
                refine wpAnyH_take (i := 32) (v := undef) rfl (by kernel_rfl) (by kernel_rfl) (by kernel_rfl) (fun _ _ _ h => h) (Or.inr ⟨by rfl, rfl⟩) hH ?rest226
                try simp only [Act.put, List.setIfInBounds_toArray, List.set_cons_zero, List.set_cons_succ, List.getElem_toArray, List.getElem_cons_zero, List.getElem_cons_succ]
                refine wpAnyH_take (i := 37) (v := undef) rfl (by kernel_rfl) (by kernel_rfl) (by kernel_rfl) (fun _ _ _ h => h) (Or.inr ⟨by rfl, rfl⟩) hH ?rest227
                try simp only [Act.put, List.setIfInBounds_toArray, List.set_cons_zero, List.set_cons_succ, List.getElem_toArray, List.getElem_cons_zero, List.getElem_cons_succ]
                refine wpAnyH_take (i := 33) (v := undef) rfl (by kernel_rfl) (by kernel_rfl) (by kernel_rfl) (fun _ _ _ h => h) (Or.inr ⟨by rfl, rfl⟩) hH ?rest228
                try simp only [Act.put, List.setIfInBounds_toArray, List.set_cons_zero, List.set_cons_succ, List.getElem_toArray, List.getElem_cons_zero, List.getElem_cons_succ]
                refine wpAnyH_take (i := 38) (v := undef) rfl (by kernel_rfl) (by kernel_rfl) (by kernel_rfl) (fun _ _ _ h => h) (Or.inr ⟨by rfl, rfl⟩) hH ?rest229
                try simp only [Act.put, List.setIfInBounds_toArray, List.set_cons_zero, List.set_cons_succ, List.getElem_toArray, List.getElem_cons_zero, List.getElem_cons_succ]
                refine wpAnyH_take (i := 39) (v := undef) rfl (by kernel_rfl) (by kernel_rfl) (by kernel_rfl) (fun _ _ _ h => h) (Or.inr ⟨by rfl, rfl⟩) hH ?rest230
                try simp only [Act.put, List.setIfInBounds_toArray, List.set_cons_zero, List.set_cons_succ, List.getElem_toArray, List.getElem_cons_zero, List.getElem_cons_succ]
                refine wpAnyH_take (i := 40) (v := ?v231) rfl (by kernel_rfl) (by kernel_rfl) (by kernel_rfl) (fun _ _ _ h => h) (Or.inl ⟨by rfl, ?hy231⟩) hH ?rest231
                case hy231 => (intro w hSw; (try dsimp only at hSw); go_simp; try with_reducible rfl)
                try simp only [Act.put, List.setIfInBounds_toArray, List.set_cons_zero, List.set_cons_succ, List.getElem_toArray, List.getElem_cons_zero, List.getElem_cons_succ]
                refine wpAnyH_done (by kernel_rfl) ?_ _
                have HB8 := Lib.hid (HB7.out.trans (hH.mono HB7.out.size))
                clear HB7 HCc hH SB BD HL7
                go_wp2
                go_roundg (E.length - (j + 1))
                case measure => omega
                case rel => exact ⟨j + 1, by omega, by go_num, HB8.out⟩
        · obtain rfl : j = E.length := by omega
          have HBX := Lib.hid (HB4.out.trans (hB.out.mono HB4.out.size))
          go_wp2
          go_ret
          exact ⟨rfl, HBX.out⟩
set_option maxRecDepth 100000 in
theorem lbehind_any (A : Option Addr) (c : Nat) (l : List No) (hc : l.length ≤ c) (hf : Wf l) (w : World) (hs : Nl w w.heap.size A l) (hd : Dl w w.heap.size l) :
    Calls Tryz.prog 7 #[.slice A l.length c] w (UpPost w) := by
  by_cases hfw : fw l = true
  · have h1 := fw_iff.1 hfw
    exact lbehind_core A c l h1.1 h1.2 hc hf w hs hd
  · have hfw' : fw l = false := by simpa using hfw
    have HAw := Lib.hid (awake_any w)
    have HFw := fun W h => Lib.hid (Few_any A c l W h)
    rw [hfw'] at HFw
    clear hfw hfw' hf hd
    go_enter Tryz.func7, Tryz.ntmps7
    go_wp2_with fail
    refine HAw.out.mono ?_
    rintro e w1 ⟨rfl, B1⟩
    have HFw1 := HFw w1 (hs.to B1 B1.size)
    go_wp2_with fail
    refine HFw1.out.mono ?_
    rintro e w2 ⟨rfl, rfl⟩
    go_wp2
    go_ret
    exact ⟨rfl, B1⟩
end Go.Proofs.YtgpciipemgljcaaGreat.Od

namespace Go.Proofs.YtgpciipemgljcaaGreat.orderBehind
open Go.ChangeShapes Go.WideShapes Go.ChangeAt Go.RowKit Go.Joins Od
set_option linter.unusedVariables false
set_option maxRecDepth 100000

theorem walk (A : Option Addr) (c : Nat) (l : List No) (w : World) (hs : l.length ≤ c ∧ Wf l ∧ Nl w w.heap.size A l ∧ Dl w w.heap.size l) : Calls Tryz.prog 7 #[.slice A l.length c] w (UpPost w) :=
  lbehind_any A c l hs.1 hs.2.1 w hs.2.2.1 hs.2.2.2

theorem own : ownKnob Tryz.prog.godebug = none := by kernel_rfl
theorem laidOut : laidOutB Tryz.prog = true := by kernel_rfl

set_option maxRecDepth 100000 in
theorem lifted (os : Os) (started : os.Started) (H : Type) (enc : TypeId × Value → H) :
    ReturnsInHanded {} Tryz.checked os 7 .any (Rows.orderBehindSpec.pre6 enc Tryz.prog Tryz.f7 Rows.orderBehindRow.domain false) (Rows.orderBehindSpec.post enc Tryz.prog Tryz.f7 false true false false) := by
  refine returnsInHanded_of_change (C := Tryz.checked) own started (by kernel_rfl) Tryz.func7
    (ChangeSpec.witness6 (enc := enc) (C := Tryz.checked) false ⟨#[], #[.slice none 0 0], []⟩ 8 (by kernel_rfl) (by kernel_rfl) (by kernel_rfl) (by kernel_rfl)) ?_
  intro W base args ds gs before hval0 hW hcnd _
  have hval : ∀ (j : Nat) t v, Tryz.f7.params[j]? = some t → args[j]? = some v → Value.okWide Tryz.prog W .any base t v := hval0
  have hW' := hW
  obtain ⟨p, q, hA, hV, rfl, hfz, hnd⟩ := hW
  have hA : DataW.TrodAll enc Tryz.prog W 0 (fun _ => true) true Tryz.f7.params.toList args.toList ds p := hA
  rw [Tryz.params7] at hA hval
  obtain ⟨v0, vs0, d0, ds0, p0, q0, hargs, rfl, rfl, h0, r0⟩ := trodAll_cons hA
  obtain ⟨rfl, rfl, rfl⟩ := trodAll_nil r0
  obtain rfl : args = #[v0] := by cases args; simp_all
  obtain ⟨rfl, rfl⟩ := trodVars_none hV
  have k0 := h0
  have lt0 : ∀ x ∈ p0, x.block < W.heap.size := by obtain ⟨m, hm⟩ := k0; exact DataW.trod_lt m _ _ _ hm
  obtain ⟨A0, c0, l0, rfl, s0⟩ := open_nodes (hval 0 22 v0 rfl rfl) h0
  clear hval0
  refine (walk A0 c0 l0 W s0).mono fun e W' ⟨he, bel⟩ => ?_
  subst he
  exact ⟨_, rfl, _, _, _, [], _, [], hW', trodAll_mk1 (shut_bool Tryz.underlying4 _), (trodAll_cons_mk (Below.trod laidOut (by kernel_rfl) (of_decide_eq_true (by kernel_rfl)) k0 bel lt0) trodAll_mk0), rfl, bel.frame _, fun h => by cases h⟩

theorem over : Rows.orderBehindRow.holds Tryz.pinned (OpenSpec.ofChange Rows.orderBehindSpec) :=
  OpenClaim.holds_of_wide 7 Tryz.f7 rfl rfl rfl rfl rfl rfl rfl ⟨rfl, rfl, rfl, rfl, rfl⟩ rfl rfl rfl rfl rfl (by kernel_rfl) Tryz.func7 (by kernel_rfl)
    (of_decide_eq_true (by kernel_rfl)) (by unfold Func.isWrapper; first | (rw [if_pos (by decide +kernel)]; kernel_rfl) | (rw [if_neg (by decide +kernel)]; exact ⟨rfl, rfl⟩))
    (fun os started H enc _ => lifted os started H enc)

theorem proved : Rows.OrderBehindSaid := over
#print axioms proved
end Go.Proofs.YtgpciipemgljcaaGreat.orderBehind
