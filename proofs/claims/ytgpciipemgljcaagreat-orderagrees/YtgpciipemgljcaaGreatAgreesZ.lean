/-
  OrderAgrees, for every input: who is told all at once, and who is told some first, in the end have done the same, of two of which one waits for the other in one order: the law answers true, and its arguments read as they did. No conditions.
-/
import Derived.Test.YtgpciipemgljcaaGreatGam
import Derived.Test.YtgpciipemgljcaaGreatGah
import Derived.Test.YtgpciipemgljcaaGreatGae
import Derived.Deep.Onto
/-
  The walk of the law OrderWaits. No conditions but what can be read.
-/
namespace Go.Proofs.YtgpciipemgljcaaGreat.Od
open Go.RowKit
set_option linter.unusedVariables false
attribute [local go_sem ↓ high] eq25 guard25 neq25 guard25n

theorem elem_size23 (W : World) : (sizeOf (Tryz.prog.elem 23)).run Tryz.prog W = .ok 2 W := by
  obtain ⟨i0, hi, hz0, hz1, hz2⟩ := info_parts info25
  have e : Tryz.prog.elem 23 = 25 := by kernel_rfl
  rw [e]
  simp [sizeOf, typeInfo, hi, hz1]
theorem Il.drop {w : World} {B b off : Nat} {l : List Is} (h : Il w B (some ⟨b, off, none⟩) l) (n : Nat) : Il w B (some ⟨b, off + n * 2, none⟩) (l.drop n) := by
  rcases h with rfl | ⟨b', off', hA, hb, hc⟩
  · exact .inl (by simp)
  · simp only [Option.some.injEq, Addr.mk.injEq, and_true] at hA
    obtain ⟨rfl, rfl⟩ := hA
    refine .inr ⟨b, _, rfl, hb, fun j x hx => ?_⟩
    rw [List.getElem?_drop] at hx
    have := hc _ _ hx
    rw [show off + n * 2 + j * 2 = off + (n + j) * 2 by omega]
    exact this
/-- 's[k:]' of instances. -/
theorem tail_runI {w : World} {B : Nat} {A : Option Addr} {l : List Is} (h : Il w B A l) (c k : Nat) (hk : k ≤ l.length) (hc : l.length ≤ c) :
    ∃ A', (∀ W, (Instr.sliceAt 23 (.slice A l.length c) (some (.int .i64 (k : Int))) none none).run Tryz.prog W = .ok (.slice A' (l.drop k).length (c - k)) W) ∧
      (∀ W, (Instr.slice 23 (.slice A l.length c) (some (.int .i64 (k : Int))) none none).run Tryz.prog W = .ok (.slice A' (l.drop k).length (c - k)) W) ∧ Il w B A' (l.drop k) := by
  have eu : Tryz.prog.underlying 23 = some (.slice (Tryz.prog.elem 23)) := by kernel_rfl
  have h2 : ∀ W, (Instr.slice 23 (.slice A l.length c) (some (.int .i64 (k : Int))) none none).run Tryz.prog W = .ok (.slice (if c = k then A else A.map (·.add (k * 2))) (l.drop k).length (c - k)) W := fun W => by
    rw [run_slice_l W 23 A l.length c eu .i64 k (by omega) (by omega), elem_size23]
    simp [sliced]
  refine ⟨if c = k then A else A.map (·.add (k * 2)), fun W => by rw [run_sliceAt_slice W 23 _ _ _ _ eu]; exact h2 W, h2, ?_⟩
  by_cases e : c = k
  · have : l.drop k = [] := List.drop_eq_nil_of_le (by omega)
    rw [this]; exact .nil
  · rw [if_neg e]
    rcases A with _ | ⟨b, off, sp⟩
    · rcases h with rfl | ⟨_, _, h0, _⟩
      · simp; exact .nil
      · cases h0
    · rcases h with rfl | ⟨b', off', hA, hb, hcc⟩
      · simp; exact .nil
      · simp only [Option.some.injEq, Addr.mk.injEq] at hA
        obtain ⟨rfl, rfl, rfl⟩ := hA
        have : Il w B (some ⟨b, off, none⟩) l := .inr ⟨b, off, rfl, hb, hcc⟩
        simp only [Option.map_some, Addr.add_lit]
        exact this.drop k
theorem place_in (A : Option Addr) (c : Nat) (l : List Is) (i : Is) (hi : i ∈ l) (hl : l.length ≤ 1000) (w : World) (hs : Il w w.heap.size A l) :
    Calls Tryz.prog 18 #[.slice A l.length c, iv i] w (fun e w' => ∃ z : Nat, e = .returned (.int .i64 (z : Int)) ∧ Below w.heap.size w w') := (place_any A c l i hl w hs).mono (by
  rintro e w' ⟨z, rfl, hz, hb⟩
  rcases hz with ⟨_, h⟩ | ⟨k, rfl, _, _⟩
  · exact absurd hi h
  · exact ⟨k, rfl, hb⟩)
theorem place_out (A : Option Addr) (c : Nat) (l : List Is) (i : Is) (hi : i ∉ l) (hl : l.length ≤ 1000) (w : World) (hs : Il w w.heap.size A l) :
    Calls Tryz.prog 18 #[.slice A l.length c, iv i] w (fun e w' => e = .returned (.int .i64 (-1)) ∧ Below w.heap.size w w') := (place_any A c l i hl w hs).mono (by
  rintro e w' ⟨z, rfl, hz, hb⟩
  rcases hz with ⟨rfl, _⟩ | ⟨k, rfl, h, _⟩
  · exact ⟨rfl, hb⟩
  · exact absurd (List.mem_of_getElem? h) hi)
set_option maxRecDepth 100000 in
set_option maxHeartbeats 4000000 in
theorem lwaits_core (A : Option Addr) (c : Nat) (l : List No) (hl : l.length ≤ 30) (h7 : F7 l) (hc : l.length ≤ c) (Ad : Option Addr) (cd : Nat) (D : List Is) (hD : D.length ≤ 100) (hf : Wf l) (hW : Wd D) (w : World) (hs : Nl w w.heap.size A l) (hd : Dl w w.heap.size l) (hi : Il w w.heap.size Ad D) :
    Calls Tryz.prog 4 #[.slice A l.length c, .slice Ad D.length cd] w (UpPost w) := by
  have HAw := Lib.hid (awake_any w)
  have HFw := fun W h => Lib.hid (Few_any A c l W h)
  have hfw : fw l = true := fw_iff.2 ⟨hl, h7⟩
  rw [hfw] at HFw
  have d2 : decide ((100 : Int) < (D.length : Int)) = false := decide_eq_false (by omega)
  have HRl : ∀ W, Below w.heap.size w W → Hid (Calls Tryz.prog 12 #[.slice A l.length c, .slice Ad D.length cd] W (RdPost W (rd (cs l D) D))) := fun W hB =>
    Ready_any A c l (by omega) hc Ad cd D (by omega) hf hW h7 (Nat.le_trans (cs_len l D) hl) W (hs.to hB hB.size) (hd.to hB hB.size) (hi.to hB hB.size)
  have HMl : ∀ W, Below w.heap.size w W → Hid (Calls Tryz.prog 14 #[.slice A l.length c, .slice Ad D.length cd] W (IsPost W (ms (cs l D) D))) := fun W hB =>
    Missing_any A c l (by omega) hc Ad cd D (by omega) hf hW h7 (Nat.le_trans (cs_len l D) (by omega)) W (hs.to hB hB.size) (hd.to hB hB.size) (hi.to hB hB.size)
  have HS := Lib.hid hs
  have HDl0 := Lib.hid hd
  have HDn0 := Lib.hid hi
  have HWf := Lib.hid hf
  have H7 := Lib.hid h7
  clear hs hd hi hf hW h7 hfw
  go_enter Tryz.func4, Tryz.ntmps4
  go_wp2_with fail
  refine HAw.out.mono ?_
  rintro e w1 ⟨rfl, B1⟩
  have HFw1 := HFw w1 (HS.out.to B1 B1.size)
  go_wp2_with fail
  refine HFw1.out.mono ?_
  rintro e w2 ⟨rfl, rfl⟩
  have HRl1 := HRl w2 B1
  clear HAw HFw HFw1 HRl
  go_wp2_with fail
  refine HRl1.out.mono ?_
  rintro e w3 ⟨v3, o, rfl, hr3, ho3, b3⟩
  obtain ⟨A3, c3, rfl, hI3, -⟩ := own_il ho3
  have hc3 := own_cap ho3
  have B3 := B1.trans (b3.mono B1.size)
  have HMl1 := HMl w3 B3
  have HOrs := Lib.hid (hr3.ors (rd_ri l D))
  have hol : o.length ≤ 900 := hr3.len (Nat.le_trans (rdk_len _ _ _) (Nat.le_trans (cs_len l D) hl))
  have HI3 := Lib.hid hI3
  clear HRl1 hr3 ho3 hI3 HMl b3
  go_wp2_with fail
  refine HMl1.out.mono ?_
  rintro e w4 ⟨v4, rfl, ho4, b4⟩
  obtain ⟨A4, c4, rfl, hI4, -⟩ := own_il ho4
  have hml := ms_len (cs l D) D
  have HB4 := Lib.hid (B3.trans (b4.mono B3.size))
  have HO := Lib.hid (HI3.out.to b4 b4.size)
  have HM := Lib.hid hI4
  have HNl := Lib.hid (HS.out.to HB4.out HB4.out.size)
  have HDl := Lib.hid (HDl0.out.to HB4.out HB4.out.size)
  have HDn := Lib.hid (HDn0.out.to HB4.out HB4.out.size)
  have HLaw := Lib.hid (fun (hdi : Di l) (n : No) (hn : n ∈ l) (hon : n.i ∈ o) => waits_law H7.out hdi HOrs.out hn hon)
  have HMb := Lib.hid (fun m (hm : m ∈ ms (cs l D) D) => mem_ax.1 (mem_ms.1 hm).1)
  generalize ms (cs l D) D = mm at *
  clear HMl1 ho4 hI4 b4 B3 B1 HI3 HS HDl0 HDn0
  go_wp2
  go_loopg [9] l.length (fun q t W => ∃ k : Nat, k + q = l.length ∧ t = .int .i64 (k : Int) ∧ Hid (Dk l k) ∧ Hid (Below w4.heap.size w4 W))
  case atStart => exact ⟨0, by omega, rfl, Dk.zero l, Below.refl _ _⟩
  case round =>
    obtain ⟨k, hk, rfl, hDk, hB⟩ := hrel
    by_cases hlt : k < l.length
    · have hki : (k : Int) < (l.length : Int) := by omega
      have hk0 : (0 : Int) ≤ (k : Int) := by omega
      have HX := Lib.hid (List.getElem?_eq_getElem hlt)
      generalize l[k] = x at *
      go_wp2
      go_loopg [10] k (fun q t W => ∃ j : Nat, j + q = k ∧ t = .int .i64 (j : Int) ∧ Hid (Below w4.heap.size w4 W) ∧ Hid (∀ b y, b < j → l[b]? = some y → x.i ≠ y.i))
      case atStart => exact ⟨0, by omega, rfl, hB.out, fun b y h => by omega⟩
      case round =>
        clear hB
        obtain ⟨j, hj, rfl, hB, hne⟩ := hrel
        by_cases hjt : j < k
        · have hji : (j : Int) < (k : Int) := by omega
          have hjl : (j : Int) < (l.length : Int) := by omega
          have hj0 : (0 : Int) ≤ (j : Int) := by omega
          have HY := Lib.hid (List.getElem?_eq_getElem (show j < l.length by omega))
          have hNw := HNl.out.to hB.out hB.out.size
          obtain ⟨b, off, rfl, hb, p0, p1, p2, p3⟩ := hNw.at_ HX.out
          obtain ⟨b2, off2, e2, hb2, q0, q1, q2, q3⟩ := hNw.at_ HY.out
          cases e2
          generalize l[j] = y at *
          clear p2 p3 q2 q3
          by_cases he : (x.b, x.s) = (y.b, y.s)
          · have hq := same_yes he
            have HBX := Lib.hid (HB4.out.trans (hB.out.mono HB4.out.size))
            clear he
            go_wp2_with fail
            go_quiet (fail)
            go_wp2
            go_ret
            exact ⟨rfl, Gp.below_drewN HBX.out _⟩
          · have hq := same_no he
            have HN2 : Hid (∀ b y, b < j + 1 → l[b]? = some y → x.i ≠ y.i) := fun b z hb hz => by
              rcases Nat.lt_or_ge b j with h | h
              · exact hne.out b z h hz
              · obtain rfl : b = j := by omega
                rw [HY.out] at hz
                cases hz
                exact he
            clear he
            go_wp2_with fail
            go_quiet (fail)
            go_wp2
            go_roundg (k - (j + 1))
            case measure => omega
            case rel => exact ⟨j + 1, by omega, by go_num, Gp.below_drewN hB.out _, HN2.out⟩
        · obtain rfl : j = k := by omega
          have HDk2 := Lib.hid (hDk.out.succ HX.out hne.out)
          go_wp2
          go_roundg (l.length - (j + 1))
          case measure => omega
          case rel => exact ⟨j + 1, by omega, by go_num, HDk2.out, hB.out⟩
    · obtain rfl : l.length = k := by omega
      have HL2 := Lib.hid (HLaw.out hDk.out.di)
      clear HLaw hDk
      go_wp2
      go_loopg [11] l.length (fun q t W => ∃ k : Nat, k + q = l.length ∧ t = .int .i64 (k : Int) ∧ Hid (Below w4.heap.size w4 W))
      case atStart => exact ⟨0, by omega, rfl, hB.out⟩
      case round =>
        clear hB hk hlt
        obtain ⟨k, hk, rfl, hB⟩ := hrel
        by_cases hlt : k < l.length
        · have hki : (k : Int) < (l.length : Int) := by omega
          have hk0 : (0 : Int) ≤ (k : Int) := by omega
          have HX := Lib.hid (List.getElem?_eq_getElem hlt)
          have HMx := Lib.hid (List.getElem_mem hlt)
          have hNw := HNl.out.to hB.out hB.out.size
          obtain ⟨b, off, rfl, hb, p0, p1, p2, p3⟩ := hNw.at_ HX.out
          generalize l[k] = x at *
          have HPl := Lib.hid (place_any A3 c3 o x.i (by omega) wr (HO.out.to hB.out hB.out.size))
          have HLx := Lib.hid (HL2.out x HMx.out)
          have HDx := Lib.hid (HDl.out x HMx.out)
          have HHas : ∀ V, Below w4.heap.size w4 V → x.i ∉ D → Hid (Calls Tryz.prog 19 #[.slice Ad D.length cd, iv x.i] V (BoolPost V false)) := fun V hV hn => has_any Ad cd D x.i false (by simp [hn]) (by omega) V (HDn.out.to hV hV.size)
          obtain ⟨xb, xs, xq, xd, xh, xc⟩ := x
          simp only [No.i, iv] at *
          clear hNw hki
          have hki : (k : Int) < (l.length : Int) := by omega
          go_wp2_with fail
          refine HPl.out.mono ?_
          rintro e w5 ⟨z, rfl, hz, b5⟩
          have HB5 := Lib.hid (hB.out.trans (b5.mono hB.out.size))
          rcases hz with ⟨rfl, -⟩ | ⟨z', rfl, hoz, -⟩
          · go_wp2
            go_roundg (l.length - (k + 1))
            case measure => omega
            case rel => exact ⟨k + 1, by omega, by go_num, HB5.out⟩
          · have hfacts := HLx.out (List.mem_of_getElem? hoz)
            obtain ⟨hfr, hfD, hfm, hfk⟩ := hfacts
            have hz0 : decide ((z' : Int) < 0) = false := decide_eq_false (by omega)
            have hzl := (List.getElem?_eq_some_iff.1 hoz).1
            obtain ⟨zz, hzz⟩ : ∃ zz, zz = z' + 1 := ⟨_, rfl⟩
            have hw : IntKind.i64.wrap ((z' : Int) + 1) = (zz : Int) := by rw [IntWalk.i64_in _ (by omega)]; omega
            have hzz0 : (0 : Int) ≤ (zz : Int) := by omega
            have HHas5 := HHas w5 HB5.out hfD
            have Hfm := Lib.hid hfm
            have Hfk := Lib.hid hfk
            have hNw5 := HNl.out.to HB5.out HB5.out.size
            obtain ⟨b', off', e', hb', p0, p1, p2, p3⟩ := hNw5.at_ HX.out
            cases e'
            have Hoz := Lib.hid hoz
            clear hfm hfk hfr hfD HHas HLx HPl b5 hB hoz hNw5
            go_wp2_with fail
            refine HHas5.out.mono ?_
            rintro e w6 ⟨rfl, b6⟩
            have HB6 := Lib.hid (HB5.out.trans (b6.mono HB5.out.size))
            have hNw6 := HNl.out.to HB6.out HB6.out.size
            obtain ⟨b', off', e', hbl, p0, p1, p2, p3⟩ := hNw6.at_ HX.out
            cases e'
            obtain ⟨Ax, ht1, ht2, hIt⟩ := tail_runI (HO.out.to HB6.out HB6.out.size) c3 zz (by omega) hc3
            have Hnt : Hid ((xb, xs) ∉ o.drop zz) := fun hm => by
              obtain ⟨i, hi⟩ := List.getElem?_of_mem hm
              rw [List.getElem?_drop] at hi
              have := HOrs.out.one _ _ _ hi Hoz.out
              omega
            have HIt := Lib.hid hIt
            have HP2 : ∀ V, Below w6.heap.size w6 V → Hid (Calls Tryz.prog 18 #[.slice Ax (o.drop zz).length (c3 - zz), .agg #[.int .i64 xb, .int .i64 xs]] V (fun e w' => e = .returned (.int .i64 (-1)) ∧ Below V.heap.size V w')) := fun V hV => (place_any Ax _ (o.drop zz) (xb, xs) (by simp; omega) V (HIt.out.to hV hV.size)).mono (by
              rintro e w' ⟨z, rfl, hz, hb⟩
              rcases hz with ⟨rfl, _⟩ | ⟨k', _, hk', _⟩
              · exact ⟨rfl, hb⟩
              · exact absurd (List.mem_of_getElem? hk') Hnt.out)
            have hzd : decide ((z' : Int) + 1 < 0) = false := decide_eq_false (by omega)
            have SB : Hid (∀ v, Below w6.heap.size w6 v → v.cell? ⟨b, off + k * 4, none⟩ = some (.int .i64 xb) ∧ v.cell? ⟨b, off + k * 4 + 1, none⟩ = some (.int .i64 xs)) := Lib.hid (fun v g => ⟨(World.cell?_of_block (g.block _ hbl)).trans p0, (World.cell?_of_block (g.block _ hbl)).trans p1⟩)
            have BD : Hid (Below w6.heap.size w6 w6.drew) := (Below.refl _ _).drew
            clear HHas5 b6 HB5 hIt hNw6 hzz p0 p1 p2 p3 hzd
            generalize (o.drop zz).length = dl at *
            go_wp2_with fail
            refine wp_region_held_drew (S := fun v => Below w6.heap.size w6 v) (by kernel_rfl) BD.out (fun hH => ?_)
            refine wpAnyH_take (i := 0) (v := ?v1) rfl (by kernel_rfl) (by kernel_rfl) (by kernel_rfl) (fun _ _ _ h => h) (Or.inl ⟨by rfl, ?hy1⟩) hH ?rest1
            case hy1 => (intro w hSw; (try dsimp only at hSw); go_simp; try with_reducible rfl)
            try simp only [Act.put, List.setIfInBounds_toArray, List.set_cons_zero, List.set_cons_succ, List.getElem_toArray, List.getElem_cons_zero]
            refine wpAnyH_take (i := 1) (v := ?v2) rfl (by kernel_rfl) (by kernel_rfl) (by kernel_rfl) (fun _ _ _ h => h) (Or.inl ⟨by rfl, ?hy2⟩) hH ?rest2
            case hy2 => (intro w hSw; (try dsimp only at hSw); go_simp; try with_reducible rfl)
            try simp only [Act.put, List.setIfInBounds_toArray, List.set_cons_zero, List.set_cons_succ, List.getElem_toArray, List.getElem_cons_zero, List.getElem_cons_succ]
            refine wpAnyH_take (i := 2) (v := ?v3) rfl (by kernel_rfl) (by kernel_rfl) (by kernel_rfl) (fun _ _ _ h => h) (Or.inl ⟨by rfl, ?hy3⟩) hH ?rest3
            case hy3 => (intro w hSw; (try dsimp only at hSw); go_simp; try with_reducible rfl)
            try simp only [Act.put, List.setIfInBounds_toArray, List.set_cons_zero, List.set_cons_succ, List.getElem_toArray, List.getElem_cons_zero, List.getElem_cons_succ]
            refine wpAnyH_take (i := 3) (v := ?v4) rfl (by kernel_rfl) (by kernel_rfl) (by kernel_rfl) (fun _ _ _ h => h) (Or.inl ⟨by rfl, ?hy4⟩) hH ?rest4
            case hy4 => (intro w hSw; (try dsimp only at hSw); go_simp; try with_reducible rfl)
            try simp only [Act.put, List.setIfInBounds_toArray, List.set_cons_zero, List.set_cons_succ, List.getElem_toArray, List.getElem_cons_zero, List.getElem_cons_succ]
            refine wpAnyH_take (i := 6) (v := ?v5) rfl (by kernel_rfl) (by kernel_rfl) (by kernel_rfl) (fun _ _ _ h => h) (Or.inl ⟨by rfl, ?hy5⟩) hH ?rest5
            case hy5 => (intro w hSw; (try dsimp only at hSw); go_simp; try with_reducible rfl)
            try simp only [Act.put, List.setIfInBounds_toArray, List.set_cons_zero, List.set_cons_succ, List.getElem_toArray, List.getElem_cons_zero, List.getElem_cons_succ]
            refine wpAnyH_take (i := 7) (v := ?v6) rfl (by kernel_rfl) (by kernel_rfl) (by kernel_rfl) (fun _ _ _ h => h) (Or.inl ⟨by rfl, ?hy6⟩) hH ?rest6
            case hy6 => (intro w hSw; (try dsimp only at hSw); go_simp; try with_reducible rfl)
            try simp only [Act.put, List.setIfInBounds_toArray, List.set_cons_zero, List.set_cons_succ, List.getElem_toArray, List.getElem_cons_zero, List.getElem_cons_succ]
            refine wpAnyH_take (i := 4) (v := ?v7) rfl (by kernel_rfl) (by kernel_rfl) (by kernel_rfl) (fun _ _ _ h => h) (Or.inl ⟨by rfl, ?hy7⟩) hH ?rest7
            case hy7 => (intro w hSw; (try dsimp only at hSw); go_simp; try with_reducible rfl)
            try simp only [Act.put, List.setIfInBounds_toArray, List.set_cons_zero, List.set_cons_succ, List.getElem_toArray, List.getElem_cons_zero, List.getElem_cons_succ]
            refine wpAnyH_take (i := 8) (v := ?v8) rfl (by kernel_rfl) (by kernel_rfl) (by kernel_rfl) (fun _ _ _ h => h) (Or.inl ⟨by rfl, ?hy8⟩) hH ?rest8
            case hy8 => (intro w hSw; (try dsimp only at hSw); go_simp; try with_reducible rfl)
            try simp only [Act.put, List.setIfInBounds_toArray, List.set_cons_zero, List.set_cons_succ, List.getElem_toArray, List.getElem_cons_zero, List.getElem_cons_succ]
            refine wpAnyH_take (i := 5) (v := ?v9) rfl (by kernel_rfl) (by kernel_rfl) (by kernel_rfl) (fun _ _ _ h => h) (Or.inl ⟨by rfl, ?hy9⟩) hH ?rest9
            case hy9 => (intro w hSw; (try dsimp only at hSw); go_simp; try with_reducible rfl)
            try simp only [Act.put, List.setIfInBounds_toArray, List.set_cons_zero, List.set_cons_succ, List.getElem_toArray, List.getElem_cons_zero, List.getElem_cons_succ]
            refine wpAnyH_take (i := 9) (v := ?v10) rfl (by kernel_rfl) (by kernel_rfl) (by kernel_rfl) (fun _ _ _ h => h) (Or.inl ⟨by rfl, ?hy10⟩) hH ?rest10
            case hy10 => (intro w hSw; (try dsimp only at hSw); go_simp; try with_reducible rfl)
            try simp only [Act.put, List.setIfInBounds_toArray, List.set_cons_zero, List.set_cons_succ, List.getElem_toArray, List.getElem_cons_zero, List.getElem_cons_succ]
            refine wpAnyH_take (i := 10) (v := ?v11) rfl (by kernel_rfl) (by kernel_rfl) (by kernel_rfl) (fun _ _ _ h => h) (Or.inl ⟨by rfl, ?hy11⟩) hH ?rest11
            case hy11 => (intro w hSw; (try dsimp only at hSw); obtain ⟨f0, f1⟩ := SB.out w hSw; go_simp; try with_reducible rfl)
            try simp only [Act.put, List.setIfInBounds_toArray, List.set_cons_zero, List.set_cons_succ, List.getElem_toArray, List.getElem_cons_zero, List.getElem_cons_succ]
            refine wpAnyH_ready (rs := [11]) (by kernel_rfl) (by simp) ?_
            refine AllReadyH.cons rfl (fun K hK => ?_) AllReadyH.nil
            go_simp
            go_at_call 18
            with_reducible refine (HP2 _ hH).out.mono ?_
            rintro e wq12 ⟨rfl, bq12⟩
            go_wp2_with fail
            refine hK.out _ _ (hH.trans (bq12.mono hH.size)) (fun hH2 => ?_)
            clear hK K hH
            have hH := hH2
            clear hH2
            try simp only [Act.put, List.setIfInBounds_toArray, List.set_cons_zero, List.set_cons_succ, List.getElem_toArray, List.getElem_cons_zero, List.getElem_cons_succ]
            refine wpAnyH_take (i := 12) (v := ?v13) rfl (by kernel_rfl) (by kernel_rfl) (by kernel_rfl) (fun _ _ _ h => h) (Or.inl ⟨by rfl, ?hy13⟩) hH ?rest13
            case hy13 => (intro w hSw; (try dsimp only at hSw); go_simp; try with_reducible rfl)
            try simp only [Act.put, List.setIfInBounds_toArray, List.set_cons_zero, List.set_cons_succ, List.getElem_toArray, List.getElem_cons_zero, List.getElem_cons_succ]
            refine wpAnyH_take (i := 13) (v := ?v14) rfl (by kernel_rfl) (by kernel_rfl) (by kernel_rfl) (fun _ _ _ h => h) (Or.inl ⟨by rfl, ?hy14⟩) hH ?rest14
            case hy14 => (intro w hSw; (try dsimp only at hSw); go_simp; try with_reducible rfl)
            try simp only [Act.put, List.setIfInBounds_toArray, List.set_cons_zero, List.set_cons_succ, List.getElem_toArray, List.getElem_cons_zero, List.getElem_cons_succ]
            refine wpAnyH_done (by kernel_rfl) ?_ _
            have HB7 := Lib.hid (HB6.out.trans (hH.mono HB6.out.size))
            clear HP2 SB BD HB6 Hnt HIt ht1 ht2 hH hw hzz0 hzl Hoz
            go_wp2
            go_loopg [14] mm.length (fun q t W => ∃ j : Nat, j + q = mm.length ∧ t = .int .i64 (j : Int) ∧ Hid (Below w4.heap.size w4 W))
            case atStart => exact ⟨0, by omega, rfl, HB7.out⟩
            case round =>
              clear HB7
              obtain ⟨j, hj, rfl, hB⟩ := hrel
              by_cases hjt : j < mm.length
              · have hji : (j : Int) < (mm.length : Int) := by omega
                have hj0 : (0 : Int) ≤ (j : Int) := by omega
                have HY := Lib.hid (List.getElem?_eq_getElem hjt)
                have HMy := Lib.hid (List.getElem_mem hjt)
                have hNw := HNl.out.to hB.out hB.out.size
                obtain ⟨b', off', e', hbl, p0, p1, p2, p3⟩ := hNw.at_ HX.out
                cases e'
                obtain ⟨b4, off4, rfl, hbl4, m0, m1⟩ := (HM.out.to hB.out hB.out.size).at_ HY.out
                have HW : ∀ V, Below wr.heap.size wr V → Hid (Calls Tryz.prog 20 #[.agg #[.int .i64 xq, .slice xh xd.length xc], iv mm[j]] V (At.BoolPost V (wa ⟨xb, xs, xq, xd, xh, xc⟩ mm[j]))) := fun V hV =>
                  At.waits_any xq mm[j].1 mm[j].2 xh xc xd V ((HDx.out.to hB.out hB.out.size).to hV hV.size) (by have := HMb.out _ HMy.out; omega)
                rw [Hfm.out _ HMy.out] at HW
                generalize mm[j] = y at *
                obtain ⟨yb, ys⟩ := y
                simp only [iv] at *
                have SB : Hid (∀ v, Below wr.heap.size wr v → v.cell? ⟨b, off + k * 4 + 2, none⟩ = some (.int .i64 xq) ∧ v.cell? ⟨b, off + k * 4 + 3, none⟩ = some (.slice xh xd.length xc) ∧ v.cell? ⟨b4, off4 + j * 2, none⟩ = some (.int .i64 yb) ∧ v.cell? ⟨b4, off4 + j * 2 + 1, none⟩ = some (.int .i64 ys)) := Lib.hid (fun v g => ⟨(World.cell?_of_block (g.block _ hbl)).trans p2, (World.cell?_of_block (g.block _ hbl)).trans p3, (World.cell?_of_block (g.block _ hbl4)).trans m0, (World.cell?_of_block (g.block _ hbl4)).trans m1⟩)
                have BD : Hid (Below wr.heap.size wr wr.drew) := (Below.refl _ _).drew
                clear p0 p1 p2 p3 m0 m1 hNw HMy
                go_wp2_with fail
                refine wp_region_held_drew (S := fun v => Below wr.heap.size wr v) (by kernel_rfl) BD.out (fun hH => ?_)
                refine wpAnyH_take (i := 0) (v := ?v15) rfl (by kernel_rfl) (by kernel_rfl) (by kernel_rfl) (fun _ _ _ h => h) (Or.inl ⟨by rfl, ?hy15⟩) hH ?rest15
                case hy15 => (intro w hSw; (try dsimp only at hSw); go_simp; try with_reducible rfl)
                try simp only [Act.put, List.setIfInBounds_toArray, List.set_cons_zero, List.set_cons_succ, List.getElem_toArray, List.getElem_cons_zero]
                refine wpAnyH_take (i := 1) (v := ?v16) rfl (by kernel_rfl) (by kernel_rfl) (by kernel_rfl) (fun _ _ _ h => h) (Or.inl ⟨by rfl, ?hy16⟩) hH ?rest16
                case hy16 => (intro w hSw; (try dsimp only at hSw); go_simp; try with_reducible rfl)
                try simp only [Act.put, List.setIfInBounds_toArray, List.set_cons_zero, List.set_cons_succ, List.getElem_toArray, List.getElem_cons_zero, List.getElem_cons_succ]
                refine wpAnyH_take (i := 5) (v := ?v17) rfl (by kernel_rfl) (by kernel_rfl) (by kernel_rfl) (fun _ _ _ h => h) (Or.inl ⟨by rfl, ?hy17⟩) hH ?rest17
                case hy17 => (intro w hSw; (try dsimp only at hSw); go_simp; try with_reducible rfl)
                try simp only [Act.put, List.setIfInBounds_toArray, List.set_cons_zero, List.set_cons_succ, List.getElem_toArray, List.getElem_cons_zero, List.getElem_cons_succ]
                refine wpAnyH_take (i := 6) (v := ?v18) rfl (by kernel_rfl) (by kernel_rfl) (by kernel_rfl) (fun _ _ _ h => h) (Or.inl ⟨by rfl, ?hy18⟩) hH ?rest18
                case hy18 => (intro w hSw; (try dsimp only at hSw); go_simp; try with_reducible rfl)
                try simp only [Act.put, List.setIfInBounds_toArray, List.set_cons_zero, List.set_cons_succ, List.getElem_toArray, List.getElem_cons_zero, List.getElem_cons_succ]
                refine wpAnyH_take (i := 2) (v := ?v19) rfl (by kernel_rfl) (by kernel_rfl) (by kernel_rfl) (fun _ _ _ h => h) (Or.inl ⟨by rfl, ?hy19⟩) hH ?rest19
                case hy19 => (intro w hSw; (try dsimp only at hSw); go_simp; try with_reducible rfl)
                try simp only [Act.put, List.setIfInBounds_toArray, List.set_cons_zero, List.set_cons_succ, List.getElem_toArray, List.getElem_cons_zero, List.getElem_cons_succ]
                refine wpAnyH_take (i := 7) (v := ?v20) rfl (by kernel_rfl) (by kernel_rfl) (by kernel_rfl) (fun _ _ _ h => h) (Or.inl ⟨by rfl, ?hy20⟩) hH ?rest20
                case hy20 => (intro w hSw; (try dsimp only at hSw); go_simp; try with_reducible rfl)
                try simp only [Act.put, List.setIfInBounds_toArray, List.set_cons_zero, List.set_cons_succ, List.getElem_toArray, List.getElem_cons_zero, List.getElem_cons_succ]
                refine wpAnyH_take (i := 3) (v := ?v21) rfl (by kernel_rfl) (by kernel_rfl) (by kernel_rfl) (fun _ _ _ h => h) (Or.inl ⟨by rfl, ?hy21⟩) hH ?rest21
                case hy21 => (intro w hSw; (try dsimp only at hSw); go_simp; try with_reducible rfl)
                try simp only [Act.put, List.setIfInBounds_toArray, List.set_cons_zero, List.set_cons_succ, List.getElem_toArray, List.getElem_cons_zero, List.getElem_cons_succ]
                refine wpAnyH_take (i := 8) (v := ?v22) rfl (by kernel_rfl) (by kernel_rfl) (by kernel_rfl) (fun _ _ _ h => h) (Or.inl ⟨by rfl, ?hy22⟩) hH ?rest22
                case hy22 => (intro w hSw; (try dsimp only at hSw); obtain ⟨f0, f1, f2, f3⟩ := SB.out w hSw; go_simp; try with_reducible rfl)
                try simp only [Act.put, List.setIfInBounds_toArray, List.set_cons_zero, List.set_cons_succ, List.getElem_toArray, List.getElem_cons_zero, List.getElem_cons_succ]
                refine wpAnyH_take (i := 4) (v := ?v23) rfl (by kernel_rfl) (by kernel_rfl) (by kernel_rfl) (fun _ _ _ h => h) (Or.inl ⟨by rfl, ?hy23⟩) hH ?rest23
                case hy23 => (intro w hSw; (try dsimp only at hSw); obtain ⟨f0, f1, f2, f3⟩ := SB.out w hSw; go_simp; try with_reducible rfl)
                try simp only [Act.put, List.setIfInBounds_toArray, List.set_cons_zero, List.set_cons_succ, List.getElem_toArray, List.getElem_cons_zero, List.getElem_cons_succ]
                refine wpAnyH_ready (rs := [9]) (by kernel_rfl) (by simp) ?_
                refine AllReadyH.cons rfl (fun K hK => ?_) AllReadyH.nil
                go_simp
                go_at_call 20
                with_reducible refine (HW _ hH).out.mono ?_
                rintro e wq24 ⟨rfl, bq24⟩
                go_wp2_with fail
                refine hK.out _ _ (hH.trans (bq24.mono hH.size)) (fun hH2 => ?_)
                clear hK K hH
                have hH := hH2
                clear hH2
                try simp only [Act.put, List.setIfInBounds_toArray, List.set_cons_zero, List.set_cons_succ, List.getElem_toArray, List.getElem_cons_zero, List.getElem_cons_succ]
                refine wpAnyH_done (by kernel_rfl) ?_ _
                have HB8 := Lib.hid (hB.out.trans (hH.mono hB.out.size))
                clear HW SB BD hB hH
                go_wp2
                go_roundg (mm.length - (j + 1))
                case measure => omega
                case rel => exact ⟨j + 1, by omega, by go_num, HB8.out⟩
              · obtain rfl : j = mm.length := by omega
                go_wp2
                go_loopg [15] l.length (fun q t W => ∃ j : Nat, j + q = l.length ∧ t = .int .i64 (j : Int) ∧ Hid (Below w4.heap.size w4 W))
                case atStart => exact ⟨0, by omega, rfl, hB.out⟩
                case round =>
                  clear hB hj hjt
                  obtain ⟨j, hj, rfl, hB⟩ := hrel
                  by_cases hjt : j < l.length
                  · have hji : (j : Int) < (l.length : Int) := by omega
                    have hj0 : (0 : Int) ≤ (j : Int) := by omega
                    have HY := Lib.hid (List.getElem?_eq_getElem hjt)
                    have HMy := Lib.hid (List.getElem_mem hjt)
                    have hNw := HNl.out.to hB.out hB.out.size
                    obtain ⟨b', off', e', hbl, p0, p1, p2, p3⟩ := hNw.at_ HX.out
                    cases e'
                    obtain ⟨b', off', e', _, q0, q1, q2, q3⟩ := hNw.at_ HY.out
                    cases e'
                    have HW : ∀ V, Below wr.heap.size wr V → Hid (Calls Tryz.prog 20 #[.agg #[.int .i64 xq, .slice xh xd.length xc], iv l[j].i] V (At.BoolPost V (wa ⟨xb, xs, xq, xd, xh, xc⟩ l[j].i))) := fun V hV =>
                      At.waits_any xq l[j].b l[j].s xh xc xd V ((HDx.out.to hB.out hB.out.size).to hV hV.size) (HWf.out _ HMy.out).1.1.2
                    have HK2 : Hid (wa ⟨xb, xs, xq, xd, xh, xc⟩ l[j].i = true → l[j].i ∈ D ∨ l[j].i ∈ o) := Hfk.out l[j]
                    have HDin : l[j].i ∈ D → ∀ V, Below wr.heap.size wr V → Hid (Calls Tryz.prog 18 #[.slice Ad D.length cd, iv l[j].i] V (fun e w' => ∃ z : Nat, e = .returned (.int .i64 (z : Int)) ∧ Below V.heap.size V w')) := fun h V hV => place_in Ad cd D _ h (by omega) V ((HDn.out.to hB.out hB.out.size).to hV hV.size)
                    have HDout : l[j].i ∉ D → ∀ V, Below wr.heap.size wr V → Hid (Calls Tryz.prog 18 #[.slice Ad D.length cd, iv l[j].i] V (fun e w' => e = .returned (.int .i64 (-1)) ∧ Below V.heap.size V w')) := fun h V hV => place_out Ad cd D _ h (by omega) V ((HDn.out.to hB.out hB.out.size).to hV hV.size)
                    have HOin : l[j].i ∈ o → ∀ V, Below wr.heap.size wr V → Hid (Calls Tryz.prog 18 #[.slice A3 o.length c3, iv l[j].i] V (fun e w' => ∃ z : Nat, e = .returned (.int .i64 (z : Int)) ∧ Below V.heap.size V w')) := fun h V hV => place_in A3 c3 o _ h (by omega) V ((HO.out.to hB.out hB.out.size).to hV hV.size)
                    generalize l[j] = y at *
                    obtain ⟨yb, ys, yq, yd, yh, yc⟩ := y
                    generalize wa ⟨xb, xs, xq, xd, xh, xc⟩ (No.i ⟨yb, ys, yq, yd, yh, yc⟩) = wv at *
                    simp only [iv, No.i] at *
                    have SB : Hid (∀ v, Below wr.heap.size wr v → v.cell? ⟨b, off + k * 4 + 2, none⟩ = some (.int .i64 xq) ∧ v.cell? ⟨b, off + k * 4 + 3, none⟩ = some (.slice xh xd.length xc) ∧ v.cell? ⟨b, off + j * 4, none⟩ = some (.int .i64 yb) ∧ v.cell? ⟨b, off + j * 4 + 1, none⟩ = some (.int .i64 ys)) := Lib.hid (fun v g => ⟨(World.cell?_of_block (g.block _ hbl)).trans p2, (World.cell?_of_block (g.block _ hbl)).trans p3, (World.cell?_of_block (g.block _ hbl)).trans q0, (World.cell?_of_block (g.block _ hbl)).trans q1⟩)
                    have BD : Hid (Below wr.heap.size wr wr.drew) := (Below.refl _ _).drew
                    clear p0 p1 p2 p3 q0 q1 q2 q3 hNw HMy
                    rcases wv with _ | _
                    · clear HK2 HDin HDout HOin
                      go_wp2_with fail
                      refine wp_region_held_drew (S := fun v => Below wr.heap.size wr v) (by kernel_rfl) BD.out (fun hH => ?_)
                      refine wpAnyH_take (i := 0) (v := ?v25) rfl (by kernel_rfl) (by kernel_rfl) (by kernel_rfl) (fun _ _ _ h => h) (Or.inl ⟨by rfl, ?hy25⟩) hH ?rest25
                      case hy25 => (intro w hSw; (try dsimp only at hSw); go_simp; try with_reducible rfl)
                      try simp only [Act.put, List.setIfInBounds_toArray, List.set_cons_zero, List.set_cons_succ, List.getElem_toArray, List.getElem_cons_zero]
                      refine wpAnyH_take (i := 1) (v := ?v26) rfl (by kernel_rfl) (by kernel_rfl) (by kernel_rfl) (fun _ _ _ h => h) (Or.inl ⟨by rfl, ?hy26⟩) hH ?rest26
                      case hy26 => (intro w hSw; (try dsimp only at hSw); go_simp; try with_reducible rfl)
                      try simp only [Act.put, List.setIfInBounds_toArray, List.set_cons_zero, List.set_cons_succ, List.getElem_toArray, List.getElem_cons_zero, List.getElem_cons_succ]
                      refine wpAnyH_take (i := 5) (v := ?v27) rfl (by kernel_rfl) (by kernel_rfl) (by kernel_rfl) (fun _ _ _ h => h) (Or.inl ⟨by rfl, ?hy27⟩) hH ?rest27
                      case hy27 => (intro w hSw; (try dsimp only at hSw); go_simp; try with_reducible rfl)
                      try simp only [Act.put, List.setIfInBounds_toArray, List.set_cons_zero, List.set_cons_succ, List.getElem_toArray, List.getElem_cons_zero, List.getElem_cons_succ]
                      refine wpAnyH_take (i := 6) (v := ?v28) rfl (by kernel_rfl) (by kernel_rfl) (by kernel_rfl) (fun _ _ _ h => h) (Or.inl ⟨by rfl, ?hy28⟩) hH ?rest28
                      case hy28 => (intro w hSw; (try dsimp only at hSw); go_simp; try with_reducible rfl)
                      try simp only [Act.put, List.setIfInBounds_toArray, List.set_cons_zero, List.set_cons_succ, List.getElem_toArray, List.getElem_cons_zero, List.getElem_cons_succ]
                      refine wpAnyH_take (i := 2) (v := ?v29) rfl (by kernel_rfl) (by kernel_rfl) (by kernel_rfl) (fun _ _ _ h => h) (Or.inl ⟨by rfl, ?hy29⟩) hH ?rest29
                      case hy29 => (intro w hSw; (try dsimp only at hSw); go_simp; try with_reducible rfl)
                      try simp only [Act.put, List.setIfInBounds_toArray, List.set_cons_zero, List.set_cons_succ, List.getElem_toArray, List.getElem_cons_zero, List.getElem_cons_succ]
                      refine wpAnyH_take (i := 7) (v := ?v30) rfl (by kernel_rfl) (by kernel_rfl) (by kernel_rfl) (fun _ _ _ h => h) (Or.inl ⟨by rfl, ?hy30⟩) hH ?rest30
                      case hy30 => (intro w hSw; (try dsimp only at hSw); go_simp; try with_reducible rfl)
                      try simp only [Act.put, List.setIfInBounds_toArray, List.set_cons_zero, List.set_cons_succ, List.getElem_toArray, List.getElem_cons_zero, List.getElem_cons_succ]
                      refine wpAnyH_take (i := 3) (v := ?v31) rfl (by kernel_rfl) (by kernel_rfl) (by kernel_rfl) (fun _ _ _ h => h) (Or.inl ⟨by rfl, ?hy31⟩) hH ?rest31
                      case hy31 => (intro w hSw; (try dsimp only at hSw); go_simp; try with_reducible rfl)
                      try simp only [Act.put, List.setIfInBounds_toArray, List.set_cons_zero, List.set_cons_succ, List.getElem_toArray, List.getElem_cons_zero, List.getElem_cons_succ]
                      refine wpAnyH_take (i := 8) (v := ?v32) rfl (by kernel_rfl) (by kernel_rfl) (by kernel_rfl) (fun _ _ _ h => h) (Or.inl ⟨by rfl, ?hy32⟩) hH ?rest32
                      case hy32 => (intro w hSw; (try dsimp only at hSw); go_simp; try with_reducible rfl)
                      try simp only [Act.put, List.setIfInBounds_toArray, List.set_cons_zero, List.set_cons_succ, List.getElem_toArray, List.getElem_cons_zero, List.getElem_cons_succ]
                      refine wpAnyH_take (i := 4) (v := ?v33) rfl (by kernel_rfl) (by kernel_rfl) (by kernel_rfl) (fun _ _ _ h => h) (Or.inl ⟨by rfl, ?hy33⟩) hH ?rest33
                      case hy33 => (intro w hSw; (try dsimp only at hSw); obtain ⟨f0, f1, f2, f3⟩ := SB.out w hSw; go_simp; try with_reducible rfl)
                      try simp only [Act.put, List.setIfInBounds_toArray, List.set_cons_zero, List.set_cons_succ, List.getElem_toArray, List.getElem_cons_zero, List.getElem_cons_succ]
                      refine wpAnyH_take (i := 9) (v := ?v34) rfl (by kernel_rfl) (by kernel_rfl) (by kernel_rfl) (fun _ _ _ h => h) (Or.inl ⟨by rfl, ?hy34⟩) hH ?rest34
                      case hy34 => (intro w hSw; (try dsimp only at hSw); obtain ⟨f0, f1, f2, f3⟩ := SB.out w hSw; go_simp; try with_reducible rfl)
                      try simp only [Act.put, List.setIfInBounds_toArray, List.set_cons_zero, List.set_cons_succ, List.getElem_toArray, List.getElem_cons_zero, List.getElem_cons_succ]
                      refine wpAnyH_ready (rs := [10]) (by kernel_rfl) (by simp) ?_
                      refine AllReadyH.cons rfl (fun K hK => ?_) AllReadyH.nil
                      go_simp
                      go_at_call 20
                      with_reducible refine (HW _ hH).out.mono ?_
                      rintro e wq35 ⟨rfl, bq35⟩
                      go_wp2_with fail
                      refine hK.out _ _ (hH.trans (bq35.mono hH.size)) (fun hH2 => ?_)
                      clear hK K hH
                      have hH := hH2
                      clear hH2
                      try simp only [Act.put, List.setIfInBounds_toArray, List.set_cons_zero, List.set_cons_succ, List.getElem_toArray, List.getElem_cons_zero, List.getElem_cons_succ]
                      refine wpAnyH_take (i := 11) (v := ?v36) rfl (by kernel_rfl) (by kernel_rfl) (by kernel_rfl) (fun _ _ _ h => h) (Or.inl ⟨by rfl, ?hy36⟩) hH ?rest36
                      case hy36 => (intro w hSw; (try dsimp only at hSw); go_simp; try with_reducible rfl)
                      try simp only [Act.put, List.setIfInBounds_toArray, List.set_cons_zero, List.set_cons_succ, List.getElem_toArray, List.getElem_cons_zero, List.getElem_cons_succ]
                      refine wpAnyH_take (i := 12) (v := undef) rfl (by kernel_rfl) (by kernel_rfl) (by kernel_rfl) (fun _ _ _ h => h) (Or.inr ⟨by rfl, rfl⟩) hH ?rest37
                      try simp only [Act.put, List.setIfInBounds_toArray, List.set_cons_zero, List.set_cons_succ, List.getElem_toArray, List.getElem_cons_zero, List.getElem_cons_succ]
                      refine wpAnyH_take (i := 13) (v := undef) rfl (by kernel_rfl) (by kernel_rfl) (by kernel_rfl) (fun _ _ _ h => h) (Or.inr ⟨by rfl, rfl⟩) hH ?rest38
                      try simp only [Act.put, List.setIfInBounds_toArray, List.set_cons_zero, List.set_cons_succ, List.getElem_toArray, List.getElem_cons_zero, List.getElem_cons_succ]
                      refine wpAnyH_take (i := 14) (v := undef) rfl (by kernel_rfl) (by kernel_rfl) (by kernel_rfl) (fun _ _ _ h => h) (Or.inr ⟨by rfl, rfl⟩) hH ?rest39
                      try simp only [Act.put, List.setIfInBounds_toArray, List.set_cons_zero, List.set_cons_succ, List.getElem_toArray, List.getElem_cons_zero, List.getElem_cons_succ]
                      refine wpAnyH_take (i := 15) (v := undef) rfl (by kernel_rfl) (by kernel_rfl) (by kernel_rfl) (fun _ _ _ h => h) (Or.inr ⟨by rfl, rfl⟩) hH ?rest40
                      try simp only [Act.put, List.setIfInBounds_toArray, List.set_cons_zero, List.set_cons_succ, List.getElem_toArray, List.getElem_cons_zero, List.getElem_cons_succ]
                      refine wpAnyH_take (i := 16) (v := undef) rfl (by kernel_rfl) (by kernel_rfl) (by kernel_rfl) (fun _ _ _ h => h) (Or.inr ⟨by rfl, rfl⟩) hH ?rest41
                      try simp only [Act.put, List.setIfInBounds_toArray, List.set_cons_zero, List.set_cons_succ, List.getElem_toArray, List.getElem_cons_zero, List.getElem_cons_succ]
                      refine wpAnyH_take (i := 17) (v := undef) rfl (by kernel_rfl) (by kernel_rfl) (by kernel_rfl) (fun _ _ _ h => h) (Or.inr ⟨by rfl, rfl⟩) hH ?rest42
                      try simp only [Act.put, List.setIfInBounds_toArray, List.set_cons_zero, List.set_cons_succ, List.getElem_toArray, List.getElem_cons_zero, List.getElem_cons_succ]
                      refine wpAnyH_take (i := 18) (v := undef) rfl (by kernel_rfl) (by kernel_rfl) (by kernel_rfl) (fun _ _ _ h => h) (Or.inr ⟨by rfl, rfl⟩) hH ?rest43
                      try simp only [Act.put, List.setIfInBounds_toArray, List.set_cons_zero, List.set_cons_succ, List.getElem_toArray, List.getElem_cons_zero, List.getElem_cons_succ]
                      refine wpAnyH_take (i := 19) (v := undef) rfl (by kernel_rfl) (by kernel_rfl) (by kernel_rfl) (fun _ _ _ h => h) (Or.inr ⟨by rfl, rfl⟩) hH ?rest44
                      try simp only [Act.put, List.setIfInBounds_toArray, List.set_cons_zero, List.set_cons_succ, List.getElem_toArray, List.getElem_cons_zero, List.getElem_cons_succ]
                      refine wpAnyH_take (i := 20) (v := ?v45) rfl (by kernel_rfl) (by kernel_rfl) (by kernel_rfl) (fun _ _ _ h => h) (Or.inl ⟨by rfl, ?hy45⟩) hH ?rest45
                      case hy45 => (intro w hSw; (try dsimp only at hSw); go_simp; try with_reducible rfl)
                      try simp only [Act.put, List.setIfInBounds_toArray, List.set_cons_zero, List.set_cons_succ, List.getElem_toArray, List.getElem_cons_zero, List.getElem_cons_succ]
                      refine wpAnyH_take (i := 21) (v := ?v46) rfl (by kernel_rfl) (by kernel_rfl) (by kernel_rfl) (fun _ _ _ h => h) (Or.inl ⟨by rfl, ?hy46⟩) hH ?rest46
                      case hy46 => (intro w hSw; (try dsimp only at hSw); go_simp; try with_reducible rfl)
                      try simp only [Act.put, List.setIfInBounds_toArray, List.set_cons_zero, List.set_cons_succ, List.getElem_toArray, List.getElem_cons_zero, List.getElem_cons_succ]
                      refine wpAnyH_take (i := 22) (v := undef) rfl (by kernel_rfl) (by kernel_rfl) (by kernel_rfl) (fun _ _ _ h => h) (Or.inr ⟨by rfl, rfl⟩) hH ?rest47
                      try simp only [Act.put, List.setIfInBounds_toArray, List.set_cons_zero, List.set_cons_succ, List.getElem_toArray, List.getElem_cons_zero, List.getElem_cons_succ]
                      refine wpAnyH_take (i := 23) (v := undef) rfl (by kernel_rfl) (by kernel_rfl) (by kernel_rfl) (fun _ _ _ h => h) (Or.inr ⟨by rfl, rfl⟩) hH ?rest48
                      try simp only [Act.put, List.setIfInBounds_toArray, List.set_cons_zero, List.set_cons_succ, List.getElem_toArray, List.getElem_cons_zero, List.getElem_cons_succ]
                      refine wpAnyH_take (i := 24) (v := undef) rfl (by kernel_rfl) (by kernel_rfl) (by kernel_rfl) (fun _ _ _ h => h) (Or.inr ⟨by rfl, rfl⟩) hH ?rest49
                      try simp only [Act.put, List.setIfInBounds_toArray, List.set_cons_zero, List.set_cons_succ, List.getElem_toArray, List.getElem_cons_zero, List.getElem_cons_succ]
                      refine wpAnyH_take (i := 25) (v := undef) rfl (by kernel_rfl) (by kernel_rfl) (by kernel_rfl) (fun _ _ _ h => h) (Or.inr ⟨by rfl, rfl⟩) hH ?rest50
                      try simp only [Act.put, List.setIfInBounds_toArray, List.set_cons_zero, List.set_cons_succ, List.getElem_toArray, List.getElem_cons_zero, List.getElem_cons_succ]
                      refine wpAnyH_take (i := 26) (v := undef) rfl (by kernel_rfl) (by kernel_rfl) (by kernel_rfl) (fun _ _ _ h => h) (Or.inr ⟨by rfl, rfl⟩) hH ?rest51
                      try simp only [Act.put, List.setIfInBounds_toArray, List.set_cons_zero, List.set_cons_succ, List.getElem_toArray, List.getElem_cons_zero, List.getElem_cons_succ]
                      refine wpAnyH_take (i := 27) (v := undef) rfl (by kernel_rfl) (by kernel_rfl) (by kernel_rfl) (fun _ _ _ h => h) (Or.inr ⟨by rfl, rfl⟩) hH ?rest52
                      try simp only [Act.put, List.setIfInBounds_toArray, List.set_cons_zero, List.set_cons_succ, List.getElem_toArray, List.getElem_cons_zero, List.getElem_cons_succ]
                      refine wpAnyH_take (i := 28) (v := undef) rfl (by kernel_rfl) (by kernel_rfl) (by kernel_rfl) (fun _ _ _ h => h) (Or.inr ⟨by rfl, rfl⟩) hH ?rest53
                      try simp only [Act.put, List.setIfInBounds_toArray, List.set_cons_zero, List.set_cons_succ, List.getElem_toArray, List.getElem_cons_zero, List.getElem_cons_succ]
                      refine wpAnyH_take (i := 29) (v := undef) rfl (by kernel_rfl) (by kernel_rfl) (by kernel_rfl) (fun _ _ _ h => h) (Or.inr ⟨by rfl, rfl⟩) hH ?rest54
                      try simp only [Act.put, List.setIfInBounds_toArray, List.set_cons_zero, List.set_cons_succ, List.getElem_toArray, List.getElem_cons_zero, List.getElem_cons_succ]
                      refine wpAnyH_take (i := 30) (v := ?v55) rfl (by kernel_rfl) (by kernel_rfl) (by kernel_rfl) (fun _ _ _ h => h) (Or.inl ⟨by rfl, ?hy55⟩) hH ?rest55
                      case hy55 => (intro w hSw; (try dsimp only at hSw); go_simp; try with_reducible rfl)
                      try simp only [Act.put, List.setIfInBounds_toArray, List.set_cons_zero, List.set_cons_succ, List.getElem_toArray, List.getElem_cons_zero, List.getElem_cons_succ]
                      refine wpAnyH_done (by kernel_rfl) ?_ _
                      have HB8 := Lib.hid (hB.out.trans (hH.mono hB.out.size))
                      clear HW SB BD hB hH
                      go_wp2
                      go_roundg (l.length - (j + 1))
                      case measure => omega
                      case rel => exact ⟨j + 1, by omega, by go_num, HB8.out⟩
                    · by_cases hyD : (yb, ys) ∈ D
                      · have HP := HDin hyD
                        clear HK2 HDin HDout HOin hyD
                        go_wp2_with fail
                        refine wp_region_held_drew (S := fun v => Below wr.heap.size wr v) (by kernel_rfl) BD.out (fun hH => ?_)
                        refine wpAnyH_take (i := 0) (v := ?v56) rfl (by kernel_rfl) (by kernel_rfl) (by kernel_rfl) (fun _ _ _ h => h) (Or.inl ⟨by rfl, ?hy56⟩) hH ?rest56
                        case hy56 => (intro w hSw; (try dsimp only at hSw); go_simp; try with_reducible rfl)
                        try simp only [Act.put, List.setIfInBounds_toArray, List.set_cons_zero, List.set_cons_succ, List.getElem_toArray, List.getElem_cons_zero]
                        refine wpAnyH_take (i := 1) (v := ?v57) rfl (by kernel_rfl) (by kernel_rfl) (by kernel_rfl) (fun _ _ _ h => h) (Or.inl ⟨by rfl, ?hy57⟩) hH ?rest57
                        case hy57 => (intro w hSw; (try dsimp only at hSw); go_simp; try with_reducible rfl)
                        try simp only [Act.put, List.setIfInBounds_toArray, List.set_cons_zero, List.set_cons_succ, List.getElem_toArray, List.getElem_cons_zero, List.getElem_cons_succ]
                        refine wpAnyH_take (i := 5) (v := ?v58) rfl (by kernel_rfl) (by kernel_rfl) (by kernel_rfl) (fun _ _ _ h => h) (Or.inl ⟨by rfl, ?hy58⟩) hH ?rest58
                        case hy58 => (intro w hSw; (try dsimp only at hSw); go_simp; try with_reducible rfl)
                        try simp only [Act.put, List.setIfInBounds_toArray, List.set_cons_zero, List.set_cons_succ, List.getElem_toArray, List.getElem_cons_zero, List.getElem_cons_succ]
                        refine wpAnyH_take (i := 6) (v := ?v59) rfl (by kernel_rfl) (by kernel_rfl) (by kernel_rfl) (fun _ _ _ h => h) (Or.inl ⟨by rfl, ?hy59⟩) hH ?rest59
                        case hy59 => (intro w hSw; (try dsimp only at hSw); go_simp; try with_reducible rfl)
                        try simp only [Act.put, List.setIfInBounds_toArray, List.set_cons_zero, List.set_cons_succ, List.getElem_toArray, List.getElem_cons_zero, List.getElem_cons_succ]
                        refine wpAnyH_take (i := 2) (v := ?v60) rfl (by kernel_rfl) (by kernel_rfl) (by kernel_rfl) (fun _ _ _ h => h) (Or.inl ⟨by rfl, ?hy60⟩) hH ?rest60
                        case hy60 => (intro w hSw; (try dsimp only at hSw); go_simp; try with_reducible rfl)
                        try simp only [Act.put, List.setIfInBounds_toArray, List.set_cons_zero, List.set_cons_succ, List.getElem_toArray, List.getElem_cons_zero, List.getElem_cons_succ]
                        refine wpAnyH_take (i := 7) (v := ?v61) rfl (by kernel_rfl) (by kernel_rfl) (by kernel_rfl) (fun _ _ _ h => h) (Or.inl ⟨by rfl, ?hy61⟩) hH ?rest61
                        case hy61 => (intro w hSw; (try dsimp only at hSw); go_simp; try with_reducible rfl)
                        try simp only [Act.put, List.setIfInBounds_toArray, List.set_cons_zero, List.set_cons_succ, List.getElem_toArray, List.getElem_cons_zero, List.getElem_cons_succ]
                        refine wpAnyH_take (i := 3) (v := ?v62) rfl (by kernel_rfl) (by kernel_rfl) (by kernel_rfl) (fun _ _ _ h => h) (Or.inl ⟨by rfl, ?hy62⟩) hH ?rest62
                        case hy62 => (intro w hSw; (try dsimp only at hSw); go_simp; try with_reducible rfl)
                        try simp only [Act.put, List.setIfInBounds_toArray, List.set_cons_zero, List.set_cons_succ, List.getElem_toArray, List.getElem_cons_zero, List.getElem_cons_succ]
                        refine wpAnyH_take (i := 8) (v := ?v63) rfl (by kernel_rfl) (by kernel_rfl) (by kernel_rfl) (fun _ _ _ h => h) (Or.inl ⟨by rfl, ?hy63⟩) hH ?rest63
                        case hy63 => (intro w hSw; (try dsimp only at hSw); go_simp; try with_reducible rfl)
                        try simp only [Act.put, List.setIfInBounds_toArray, List.set_cons_zero, List.set_cons_succ, List.getElem_toArray, List.getElem_cons_zero, List.getElem_cons_succ]
                        refine wpAnyH_take (i := 4) (v := ?v64) rfl (by kernel_rfl) (by kernel_rfl) (by kernel_rfl) (fun _ _ _ h => h) (Or.inl ⟨by rfl, ?hy64⟩) hH ?rest64
                        case hy64 => (intro w hSw; (try dsimp only at hSw); obtain ⟨f0, f1, f2, f3⟩ := SB.out w hSw; go_simp; try with_reducible rfl)
                        try simp only [Act.put, List.setIfInBounds_toArray, List.set_cons_zero, List.set_cons_succ, List.getElem_toArray, List.getElem_cons_zero, List.getElem_cons_succ]
                        refine wpAnyH_take (i := 9) (v := ?v65) rfl (by kernel_rfl) (by kernel_rfl) (by kernel_rfl) (fun _ _ _ h => h) (Or.inl ⟨by rfl, ?hy65⟩) hH ?rest65
                        case hy65 => (intro w hSw; (try dsimp only at hSw); obtain ⟨f0, f1, f2, f3⟩ := SB.out w hSw; go_simp; try with_reducible rfl)
                        try simp only [Act.put, List.setIfInBounds_toArray, List.set_cons_zero, List.set_cons_succ, List.getElem_toArray, List.getElem_cons_zero, List.getElem_cons_succ]
                        refine wpAnyH_ready (rs := [10]) (by kernel_rfl) (by simp) ?_
                        refine AllReadyH.cons rfl (fun K hK => ?_) AllReadyH.nil
                        go_simp
                        go_at_call 20
                        with_reducible refine (HW _ hH).out.mono ?_
                        rintro e wq66 ⟨rfl, bq66⟩
                        go_wp2_with fail
                        refine hK.out _ _ (hH.trans (bq66.mono hH.size)) (fun hH2 => ?_)
                        clear hK K hH
                        have hH := hH2
                        clear hH2
                        try simp only [Act.put, List.setIfInBounds_toArray, List.set_cons_zero, List.set_cons_succ, List.getElem_toArray, List.getElem_cons_zero, List.getElem_cons_succ]
                        refine wpAnyH_take (i := 11) (v := ?v67) rfl (by kernel_rfl) (by kernel_rfl) (by kernel_rfl) (fun _ _ _ h => h) (Or.inl ⟨by rfl, ?hy67⟩) hH ?rest67
                        case hy67 => (intro w hSw; (try dsimp only at hSw); go_simp; try with_reducible rfl)
                        try simp only [Act.put, List.setIfInBounds_toArray, List.set_cons_zero, List.set_cons_succ, List.getElem_toArray, List.getElem_cons_zero, List.getElem_cons_succ]
                        refine wpAnyH_take (i := 12) (v := ?v68) rfl (by kernel_rfl) (by kernel_rfl) (by kernel_rfl) (fun _ _ _ h => h) (Or.inl ⟨by rfl, ?hy68⟩) hH ?rest68
                        case hy68 => (intro w hSw; (try dsimp only at hSw); go_simp; try with_reducible rfl)
                        try simp only [Act.put, List.setIfInBounds_toArray, List.set_cons_zero, List.set_cons_succ, List.getElem_toArray, List.getElem_cons_zero, List.getElem_cons_succ]
                        refine wpAnyH_take (i := 13) (v := ?v69) rfl (by kernel_rfl) (by kernel_rfl) (by kernel_rfl) (fun _ _ _ h => h) (Or.inl ⟨by rfl, ?hy69⟩) hH ?rest69
                        case hy69 => (intro w hSw; (try dsimp only at hSw); go_simp; try with_reducible rfl)
                        try simp only [Act.put, List.setIfInBounds_toArray, List.set_cons_zero, List.set_cons_succ, List.getElem_toArray, List.getElem_cons_zero, List.getElem_cons_succ]
                        refine wpAnyH_take (i := 14) (v := ?v70) rfl (by kernel_rfl) (by kernel_rfl) (by kernel_rfl) (fun _ _ _ h => h) (Or.inl ⟨by rfl, ?hy70⟩) hH ?rest70
                        case hy70 => (intro w hSw; (try dsimp only at hSw); go_simp; try with_reducible rfl)
                        try simp only [Act.put, List.setIfInBounds_toArray, List.set_cons_zero, List.set_cons_succ, List.getElem_toArray, List.getElem_cons_zero, List.getElem_cons_succ]
                        refine wpAnyH_take (i := 15) (v := ?v71) rfl (by kernel_rfl) (by kernel_rfl) (by kernel_rfl) (fun _ _ _ h => h) (Or.inl ⟨by rfl, ?hy71⟩) hH ?rest71
                        case hy71 => (intro w hSw; (try dsimp only at hSw); go_simp; try with_reducible rfl)
                        try simp only [Act.put, List.setIfInBounds_toArray, List.set_cons_zero, List.set_cons_succ, List.getElem_toArray, List.getElem_cons_zero, List.getElem_cons_succ]
                        refine wpAnyH_take (i := 16) (v := ?v72) rfl (by kernel_rfl) (by kernel_rfl) (by kernel_rfl) (fun _ _ _ h => h) (Or.inl ⟨by rfl, ?hy72⟩) hH ?rest72
                        case hy72 => (intro w hSw; (try dsimp only at hSw); go_simp; try with_reducible rfl)
                        try simp only [Act.put, List.setIfInBounds_toArray, List.set_cons_zero, List.set_cons_succ, List.getElem_toArray, List.getElem_cons_zero, List.getElem_cons_succ]
                        refine wpAnyH_take (i := 17) (v := ?v73) rfl (by kernel_rfl) (by kernel_rfl) (by kernel_rfl) (fun _ _ _ h => h) (Or.inl ⟨by rfl, ?hy73⟩) hH ?rest73
                        case hy73 => (intro w hSw; (try dsimp only at hSw); obtain ⟨f0, f1, f2, f3⟩ := SB.out w hSw; go_simp; try with_reducible rfl)
                        try simp only [Act.put, List.setIfInBounds_toArray, List.set_cons_zero, List.set_cons_succ, List.getElem_toArray, List.getElem_cons_zero, List.getElem_cons_succ]
                        refine wpAnyH_ready (rs := [18]) (by kernel_rfl) (by simp) ?_
                        refine AllReadyH.cons rfl (fun K hK => ?_) AllReadyH.nil
                        go_simp
                        go_at_call 18
                        with_reducible refine (HP _ hH).out.mono ?_
                        rintro e wq74 ⟨zn74, rfl, bq74⟩
                        have hzn74 : decide ((zn74 : Int) < 0) = false := decide_eq_false (by omega)
                        go_wp2_with fail
                        refine hK.out _ _ (hH.trans (bq74.mono hH.size)) (fun hH2 => ?_)
                        clear hK K hH
                        have hH := hH2
                        clear hH2
                        try simp only [Act.put, List.setIfInBounds_toArray, List.set_cons_zero, List.set_cons_succ, List.getElem_toArray, List.getElem_cons_zero, List.getElem_cons_succ]
                        refine wpAnyH_take (i := 19) (v := ?v75) rfl (by kernel_rfl) (by kernel_rfl) (by kernel_rfl) (fun _ _ _ h => h) (Or.inl ⟨by rfl, ?hy75⟩) hH ?rest75
                        case hy75 => (intro w hSw; (try dsimp only at hSw); go_simp; try with_reducible rfl)
                        try simp only [Act.put, List.setIfInBounds_toArray, List.set_cons_zero, List.set_cons_succ, List.getElem_toArray, List.getElem_cons_zero, List.getElem_cons_succ]
                        refine wpAnyH_take (i := 20) (v := ?v76) rfl (by kernel_rfl) (by kernel_rfl) (by kernel_rfl) (fun _ _ _ h => h) (Or.inl ⟨by rfl, ?hy76⟩) hH ?rest76
                        case hy76 => (intro w hSw; (try dsimp only at hSw); go_simp; try with_reducible rfl)
                        try simp only [Act.put, List.setIfInBounds_toArray, List.set_cons_zero, List.set_cons_succ, List.getElem_toArray, List.getElem_cons_zero, List.getElem_cons_succ]
                        refine wpAnyH_take (i := 21) (v := ?v77) rfl (by kernel_rfl) (by kernel_rfl) (by kernel_rfl) (fun _ _ _ h => h) (Or.inl ⟨by rfl, ?hy77⟩) hH ?rest77
                        case hy77 => (intro w hSw; (try dsimp only at hSw); go_simp; try with_reducible rfl)
                        try simp only [Act.put, List.setIfInBounds_toArray, List.set_cons_zero, List.set_cons_succ, List.getElem_toArray, List.getElem_cons_zero, List.getElem_cons_succ]
                        refine wpAnyH_take (i := 22) (v := undef) rfl (by kernel_rfl) (by kernel_rfl) (by kernel_rfl) (fun _ _ _ h => h) (Or.inr ⟨by rfl, rfl⟩) hH ?rest78
                        try simp only [Act.put, List.setIfInBounds_toArray, List.set_cons_zero, List.set_cons_succ, List.getElem_toArray, List.getElem_cons_zero, List.getElem_cons_succ]
                        refine wpAnyH_take (i := 23) (v := undef) rfl (by kernel_rfl) (by kernel_rfl) (by kernel_rfl) (fun _ _ _ h => h) (Or.inr ⟨by rfl, rfl⟩) hH ?rest79
                        try simp only [Act.put, List.setIfInBounds_toArray, List.set_cons_zero, List.set_cons_succ, List.getElem_toArray, List.getElem_cons_zero, List.getElem_cons_succ]
                        refine wpAnyH_take (i := 24) (v := undef) rfl (by kernel_rfl) (by kernel_rfl) (by kernel_rfl) (fun _ _ _ h => h) (Or.inr ⟨by rfl, rfl⟩) hH ?rest80
                        try simp only [Act.put, List.setIfInBounds_toArray, List.set_cons_zero, List.set_cons_succ, List.getElem_toArray, List.getElem_cons_zero, List.getElem_cons_succ]
                        refine wpAnyH_take (i := 25) (v := undef) rfl (by kernel_rfl) (by kernel_rfl) (by kernel_rfl) (fun _ _ _ h => h) (Or.inr ⟨by rfl, rfl⟩) hH ?rest81
                        try simp only [Act.put, List.setIfInBounds_toArray, List.set_cons_zero, List.set_cons_succ, List.getElem_toArray, List.getElem_cons_zero, List.getElem_cons_succ]
                        refine wpAnyH_take (i := 26) (v := undef) rfl (by kernel_rfl) (by kernel_rfl) (by kernel_rfl) (fun _ _ _ h => h) (Or.inr ⟨by rfl, rfl⟩) hH ?rest82
                        try simp only [Act.put, List.setIfInBounds_toArray, List.set_cons_zero, List.set_cons_succ, List.getElem_toArray, List.getElem_cons_zero, List.getElem_cons_succ]
                        refine wpAnyH_take (i := 27) (v := undef) rfl (by kernel_rfl) (by kernel_rfl) (by kernel_rfl) (fun _ _ _ h => h) (Or.inr ⟨by rfl, rfl⟩) hH ?rest83
                        try simp only [Act.put, List.setIfInBounds_toArray, List.set_cons_zero, List.set_cons_succ, List.getElem_toArray, List.getElem_cons_zero, List.getElem_cons_succ]
                        refine wpAnyH_take (i := 28) (v := undef) rfl (by kernel_rfl) (by kernel_rfl) (by kernel_rfl) (fun _ _ _ h => h) (Or.inr ⟨by rfl, rfl⟩) hH ?rest84
                        try simp only [Act.put, List.setIfInBounds_toArray, List.set_cons_zero, List.set_cons_succ, List.getElem_toArray, List.getElem_cons_zero, List.getElem_cons_succ]
                        refine wpAnyH_take (i := 29) (v := undef) rfl (by kernel_rfl) (by kernel_rfl) (by kernel_rfl) (fun _ _ _ h => h) (Or.inr ⟨by rfl, rfl⟩) hH ?rest85
                        try simp only [Act.put, List.setIfInBounds_toArray, List.set_cons_zero, List.set_cons_succ, List.getElem_toArray, List.getElem_cons_zero, List.getElem_cons_succ]
                        refine wpAnyH_take (i := 30) (v := ?v86) rfl (by kernel_rfl) (by kernel_rfl) (by kernel_rfl) (fun _ _ _ h => h) (Or.inl ⟨by rfl, ?hy86⟩) hH ?rest86
                        case hy86 => (intro w hSw; (try dsimp only at hSw); go_simp; try with_reducible rfl)
                        try simp only [Act.put, List.setIfInBounds_toArray, List.set_cons_zero, List.set_cons_succ, List.getElem_toArray, List.getElem_cons_zero, List.getElem_cons_succ]
                        refine wpAnyH_done (by kernel_rfl) ?_ _
                        clear HP
                        have HB8 := Lib.hid (hB.out.trans (hH.mono hB.out.size))
                        clear HW SB BD hB hH
                        go_wp2
                        go_roundg (l.length - (j + 1))
                        case measure => omega
                        case rel => exact ⟨j + 1, by omega, by go_num, HB8.out⟩
                      · have HP := HDout hyD
                        have HQ := HOin ((HK2.out rfl).resolve_left hyD)
                        clear HK2 HDin HDout HOin hyD
                        go_wp2_with fail
                        refine wp_region_held_drew (S := fun v => Below wr.heap.size wr v) (by kernel_rfl) BD.out (fun hH => ?_)
                        refine wpAnyH_take (i := 0) (v := ?v87) rfl (by kernel_rfl) (by kernel_rfl) (by kernel_rfl) (fun _ _ _ h => h) (Or.inl ⟨by rfl, ?hy87⟩) hH ?rest87
                        case hy87 => (intro w hSw; (try dsimp only at hSw); go_simp; try with_reducible rfl)
                        try simp only [Act.put, List.setIfInBounds_toArray, List.set_cons_zero, List.set_cons_succ, List.getElem_toArray, List.getElem_cons_zero]
                        refine wpAnyH_take (i := 1) (v := ?v88) rfl (by kernel_rfl) (by kernel_rfl) (by kernel_rfl) (fun _ _ _ h => h) (Or.inl ⟨by rfl, ?hy88⟩) hH ?rest88
                        case hy88 => (intro w hSw; (try dsimp only at hSw); go_simp; try with_reducible rfl)
                        try simp only [Act.put, List.setIfInBounds_toArray, List.set_cons_zero, List.set_cons_succ, List.getElem_toArray, List.getElem_cons_zero, List.getElem_cons_succ]
                        refine wpAnyH_take (i := 5) (v := ?v89) rfl (by kernel_rfl) (by kernel_rfl) (by kernel_rfl) (fun _ _ _ h => h) (Or.inl ⟨by rfl, ?hy89⟩) hH ?rest89
                        case hy89 => (intro w hSw; (try dsimp only at hSw); go_simp; try with_reducible rfl)
                        try simp only [Act.put, List.setIfInBounds_toArray, List.set_cons_zero, List.set_cons_succ, List.getElem_toArray, List.getElem_cons_zero, List.getElem_cons_succ]
                        refine wpAnyH_take (i := 6) (v := ?v90) rfl (by kernel_rfl) (by kernel_rfl) (by kernel_rfl) (fun _ _ _ h => h) (Or.inl ⟨by rfl, ?hy90⟩) hH ?rest90
                        case hy90 => (intro w hSw; (try dsimp only at hSw); go_simp; try with_reducible rfl)
                        try simp only [Act.put, List.setIfInBounds_toArray, List.set_cons_zero, List.set_cons_succ, List.getElem_toArray, List.getElem_cons_zero, List.getElem_cons_succ]
                        refine wpAnyH_take (i := 2) (v := ?v91) rfl (by kernel_rfl) (by kernel_rfl) (by kernel_rfl) (fun _ _ _ h => h) (Or.inl ⟨by rfl, ?hy91⟩) hH ?rest91
                        case hy91 => (intro w hSw; (try dsimp only at hSw); go_simp; try with_reducible rfl)
                        try simp only [Act.put, List.setIfInBounds_toArray, List.set_cons_zero, List.set_cons_succ, List.getElem_toArray, List.getElem_cons_zero, List.getElem_cons_succ]
                        refine wpAnyH_take (i := 7) (v := ?v92) rfl (by kernel_rfl) (by kernel_rfl) (by kernel_rfl) (fun _ _ _ h => h) (Or.inl ⟨by rfl, ?hy92⟩) hH ?rest92
                        case hy92 => (intro w hSw; (try dsimp only at hSw); go_simp; try with_reducible rfl)
                        try simp only [Act.put, List.setIfInBounds_toArray, List.set_cons_zero, List.set_cons_succ, List.getElem_toArray, List.getElem_cons_zero, List.getElem_cons_succ]
                        refine wpAnyH_take (i := 3) (v := ?v93) rfl (by kernel_rfl) (by kernel_rfl) (by kernel_rfl) (fun _ _ _ h => h) (Or.inl ⟨by rfl, ?hy93⟩) hH ?rest93
                        case hy93 => (intro w hSw; (try dsimp only at hSw); go_simp; try with_reducible rfl)
                        try simp only [Act.put, List.setIfInBounds_toArray, List.set_cons_zero, List.set_cons_succ, List.getElem_toArray, List.getElem_cons_zero, List.getElem_cons_succ]
                        refine wpAnyH_take (i := 8) (v := ?v94) rfl (by kernel_rfl) (by kernel_rfl) (by kernel_rfl) (fun _ _ _ h => h) (Or.inl ⟨by rfl, ?hy94⟩) hH ?rest94
                        case hy94 => (intro w hSw; (try dsimp only at hSw); go_simp; try with_reducible rfl)
                        try simp only [Act.put, List.setIfInBounds_toArray, List.set_cons_zero, List.set_cons_succ, List.getElem_toArray, List.getElem_cons_zero, List.getElem_cons_succ]
                        refine wpAnyH_take (i := 4) (v := ?v95) rfl (by kernel_rfl) (by kernel_rfl) (by kernel_rfl) (fun _ _ _ h => h) (Or.inl ⟨by rfl, ?hy95⟩) hH ?rest95
                        case hy95 => (intro w hSw; (try dsimp only at hSw); obtain ⟨f0, f1, f2, f3⟩ := SB.out w hSw; go_simp; try with_reducible rfl)
                        try simp only [Act.put, List.setIfInBounds_toArray, List.set_cons_zero, List.set_cons_succ, List.getElem_toArray, List.getElem_cons_zero, List.getElem_cons_succ]
                        refine wpAnyH_take (i := 9) (v := ?v96) rfl (by kernel_rfl) (by kernel_rfl) (by kernel_rfl) (fun _ _ _ h => h) (Or.inl ⟨by rfl, ?hy96⟩) hH ?rest96
                        case hy96 => (intro w hSw; (try dsimp only at hSw); obtain ⟨f0, f1, f2, f3⟩ := SB.out w hSw; go_simp; try with_reducible rfl)
                        try simp only [Act.put, List.setIfInBounds_toArray, List.set_cons_zero, List.set_cons_succ, List.getElem_toArray, List.getElem_cons_zero, List.getElem_cons_succ]
                        refine wpAnyH_ready (rs := [10]) (by kernel_rfl) (by simp) ?_
                        refine AllReadyH.cons rfl (fun K hK => ?_) AllReadyH.nil
                        go_simp
                        go_at_call 20
                        with_reducible refine (HW _ hH).out.mono ?_
                        rintro e wq97 ⟨rfl, bq97⟩
                        go_wp2_with fail
                        refine hK.out _ _ (hH.trans (bq97.mono hH.size)) (fun hH2 => ?_)
                        clear hK K hH
                        have hH := hH2
                        clear hH2
                        try simp only [Act.put, List.setIfInBounds_toArray, List.set_cons_zero, List.set_cons_succ, List.getElem_toArray, List.getElem_cons_zero, List.getElem_cons_succ]
                        refine wpAnyH_take (i := 11) (v := ?v98) rfl (by kernel_rfl) (by kernel_rfl) (by kernel_rfl) (fun _ _ _ h => h) (Or.inl ⟨by rfl, ?hy98⟩) hH ?rest98
                        case hy98 => (intro w hSw; (try dsimp only at hSw); go_simp; try with_reducible rfl)
                        try simp only [Act.put, List.setIfInBounds_toArray, List.set_cons_zero, List.set_cons_succ, List.getElem_toArray, List.getElem_cons_zero, List.getElem_cons_succ]
                        refine wpAnyH_take (i := 12) (v := ?v99) rfl (by kernel_rfl) (by kernel_rfl) (by kernel_rfl) (fun _ _ _ h => h) (Or.inl ⟨by rfl, ?hy99⟩) hH ?rest99
                        case hy99 => (intro w hSw; (try dsimp only at hSw); go_simp; try with_reducible rfl)
                        try simp only [Act.put, List.setIfInBounds_toArray, List.set_cons_zero, List.set_cons_succ, List.getElem_toArray, List.getElem_cons_zero, List.getElem_cons_succ]
                        refine wpAnyH_take (i := 13) (v := ?v100) rfl (by kernel_rfl) (by kernel_rfl) (by kernel_rfl) (fun _ _ _ h => h) (Or.inl ⟨by rfl, ?hy100⟩) hH ?rest100
                        case hy100 => (intro w hSw; (try dsimp only at hSw); go_simp; try with_reducible rfl)
                        try simp only [Act.put, List.setIfInBounds_toArray, List.set_cons_zero, List.set_cons_succ, List.getElem_toArray, List.getElem_cons_zero, List.getElem_cons_succ]
                        refine wpAnyH_take (i := 14) (v := ?v101) rfl (by kernel_rfl) (by kernel_rfl) (by kernel_rfl) (fun _ _ _ h => h) (Or.inl ⟨by rfl, ?hy101⟩) hH ?rest101
                        case hy101 => (intro w hSw; (try dsimp only at hSw); go_simp; try with_reducible rfl)
                        try simp only [Act.put, List.setIfInBounds_toArray, List.set_cons_zero, List.set_cons_succ, List.getElem_toArray, List.getElem_cons_zero, List.getElem_cons_succ]
                        refine wpAnyH_take (i := 15) (v := ?v102) rfl (by kernel_rfl) (by kernel_rfl) (by kernel_rfl) (fun _ _ _ h => h) (Or.inl ⟨by rfl, ?hy102⟩) hH ?rest102
                        case hy102 => (intro w hSw; (try dsimp only at hSw); go_simp; try with_reducible rfl)
                        try simp only [Act.put, List.setIfInBounds_toArray, List.set_cons_zero, List.set_cons_succ, List.getElem_toArray, List.getElem_cons_zero, List.getElem_cons_succ]
                        refine wpAnyH_take (i := 16) (v := ?v103) rfl (by kernel_rfl) (by kernel_rfl) (by kernel_rfl) (fun _ _ _ h => h) (Or.inl ⟨by rfl, ?hy103⟩) hH ?rest103
                        case hy103 => (intro w hSw; (try dsimp only at hSw); go_simp; try with_reducible rfl)
                        try simp only [Act.put, List.setIfInBounds_toArray, List.set_cons_zero, List.set_cons_succ, List.getElem_toArray, List.getElem_cons_zero, List.getElem_cons_succ]
                        refine wpAnyH_take (i := 17) (v := ?v104) rfl (by kernel_rfl) (by kernel_rfl) (by kernel_rfl) (fun _ _ _ h => h) (Or.inl ⟨by rfl, ?hy104⟩) hH ?rest104
                        case hy104 => (intro w hSw; (try dsimp only at hSw); obtain ⟨f0, f1, f2, f3⟩ := SB.out w hSw; go_simp; try with_reducible rfl)
                        try simp only [Act.put, List.setIfInBounds_toArray, List.set_cons_zero, List.set_cons_succ, List.getElem_toArray, List.getElem_cons_zero, List.getElem_cons_succ]
                        refine wpAnyH_ready (rs := [18]) (by kernel_rfl) (by simp) ?_
                        refine AllReadyH.cons rfl (fun K hK => ?_) AllReadyH.nil
                        go_simp
                        go_at_call 18
                        with_reducible refine (HP _ hH).out.mono ?_
                        rintro e wq105 ⟨rfl, bq105⟩
                        go_wp2_with fail
                        refine hK.out _ _ (hH.trans (bq105.mono hH.size)) (fun hH2 => ?_)
                        clear hK K hH
                        have hH := hH2
                        clear hH2
                        try simp only [Act.put, List.setIfInBounds_toArray, List.set_cons_zero, List.set_cons_succ, List.getElem_toArray, List.getElem_cons_zero, List.getElem_cons_succ]
                        refine wpAnyH_take (i := 19) (v := ?v106) rfl (by kernel_rfl) (by kernel_rfl) (by kernel_rfl) (fun _ _ _ h => h) (Or.inl ⟨by rfl, ?hy106⟩) hH ?rest106
                        case hy106 => (intro w hSw; (try dsimp only at hSw); go_simp; try with_reducible rfl)
                        try simp only [Act.put, List.setIfInBounds_toArray, List.set_cons_zero, List.set_cons_succ, List.getElem_toArray, List.getElem_cons_zero, List.getElem_cons_succ]
                        refine wpAnyH_take (i := 20) (v := ?v107) rfl (by kernel_rfl) (by kernel_rfl) (by kernel_rfl) (fun _ _ _ h => h) (Or.inl ⟨by rfl, ?hy107⟩) hH ?rest107
                        case hy107 => (intro w hSw; (try dsimp only at hSw); go_simp; try with_reducible rfl)
                        try simp only [Act.put, List.setIfInBounds_toArray, List.set_cons_zero, List.set_cons_succ, List.getElem_toArray, List.getElem_cons_zero, List.getElem_cons_succ]
                        refine wpAnyH_take (i := 21) (v := ?v108) rfl (by kernel_rfl) (by kernel_rfl) (by kernel_rfl) (fun _ _ _ h => h) (Or.inl ⟨by rfl, ?hy108⟩) hH ?rest108
                        case hy108 => (intro w hSw; (try dsimp only at hSw); go_simp; try with_reducible rfl)
                        try simp only [Act.put, List.setIfInBounds_toArray, List.set_cons_zero, List.set_cons_succ, List.getElem_toArray, List.getElem_cons_zero, List.getElem_cons_succ]
                        refine wpAnyH_take (i := 22) (v := ?v109) rfl (by kernel_rfl) (by kernel_rfl) (by kernel_rfl) (fun _ _ _ h => h) (Or.inl ⟨by rfl, ?hy109⟩) hH ?rest109
                        case hy109 => (intro w hSw; (try dsimp only at hSw); go_simp; try with_reducible rfl)
                        try simp only [Act.put, List.setIfInBounds_toArray, List.set_cons_zero, List.set_cons_succ, List.getElem_toArray, List.getElem_cons_zero, List.getElem_cons_succ]
                        refine wpAnyH_take (i := 23) (v := ?v110) rfl (by kernel_rfl) (by kernel_rfl) (by kernel_rfl) (fun _ _ _ h => h) (Or.inl ⟨by rfl, ?hy110⟩) hH ?rest110
                        case hy110 => (intro w hSw; (try dsimp only at hSw); go_simp; try with_reducible rfl)
                        try simp only [Act.put, List.setIfInBounds_toArray, List.set_cons_zero, List.set_cons_succ, List.getElem_toArray, List.getElem_cons_zero, List.getElem_cons_succ]
                        refine wpAnyH_take (i := 24) (v := ?v111) rfl (by kernel_rfl) (by kernel_rfl) (by kernel_rfl) (fun _ _ _ h => h) (Or.inl ⟨by rfl, ?hy111⟩) hH ?rest111
                        case hy111 => (intro w hSw; (try dsimp only at hSw); go_simp; try with_reducible rfl)
                        try simp only [Act.put, List.setIfInBounds_toArray, List.set_cons_zero, List.set_cons_succ, List.getElem_toArray, List.getElem_cons_zero, List.getElem_cons_succ]
                        refine wpAnyH_take (i := 25) (v := ?v112) rfl (by kernel_rfl) (by kernel_rfl) (by kernel_rfl) (fun _ _ _ h => h) (Or.inl ⟨by rfl, ?hy112⟩) hH ?rest112
                        case hy112 => (intro w hSw; (try dsimp only at hSw); go_simp; try with_reducible rfl)
                        try simp only [Act.put, List.setIfInBounds_toArray, List.set_cons_zero, List.set_cons_succ, List.getElem_toArray, List.getElem_cons_zero, List.getElem_cons_succ]
                        refine wpAnyH_take (i := 26) (v := ?v113) rfl (by kernel_rfl) (by kernel_rfl) (by kernel_rfl) (fun _ _ _ h => h) (Or.inl ⟨by rfl, ?hy113⟩) hH ?rest113
                        case hy113 => (intro w hSw; (try dsimp only at hSw); go_simp; try with_reducible rfl)
                        try simp only [Act.put, List.setIfInBounds_toArray, List.set_cons_zero, List.set_cons_succ, List.getElem_toArray, List.getElem_cons_zero, List.getElem_cons_succ]
                        refine wpAnyH_take (i := 27) (v := ?v114) rfl (by kernel_rfl) (by kernel_rfl) (by kernel_rfl) (fun _ _ _ h => h) (Or.inl ⟨by rfl, ?hy114⟩) hH ?rest114
                        case hy114 => (intro w hSw; (try dsimp only at hSw); obtain ⟨f0, f1, f2, f3⟩ := SB.out w hSw; go_simp; try with_reducible rfl)
                        try simp only [Act.put, List.setIfInBounds_toArray, List.set_cons_zero, List.set_cons_succ, List.getElem_toArray, List.getElem_cons_zero, List.getElem_cons_succ]
                        refine wpAnyH_ready (rs := [28]) (by kernel_rfl) (by simp) ?_
                        refine AllReadyH.cons rfl (fun K hK => ?_) AllReadyH.nil
                        go_simp
                        go_at_call 18
                        with_reducible refine (HQ _ hH).out.mono ?_
                        rintro e wq115 ⟨zn115, rfl, bq115⟩
                        have hzn115 : decide ((zn115 : Int) < 0) = false := decide_eq_false (by omega)
                        go_wp2_with fail
                        refine hK.out _ _ (hH.trans (bq115.mono hH.size)) (fun hH2 => ?_)
                        clear hK K hH
                        have hH := hH2
                        clear hH2
                        try simp only [Act.put, List.setIfInBounds_toArray, List.set_cons_zero, List.set_cons_succ, List.getElem_toArray, List.getElem_cons_zero, List.getElem_cons_succ]
                        refine wpAnyH_take (i := 29) (v := ?v116) rfl (by kernel_rfl) (by kernel_rfl) (by kernel_rfl) (fun _ _ _ h => h) (Or.inl ⟨by rfl, ?hy116⟩) hH ?rest116
                        case hy116 => (intro w hSw; (try dsimp only at hSw); go_simp; try with_reducible rfl)
                        try simp only [Act.put, List.setIfInBounds_toArray, List.set_cons_zero, List.set_cons_succ, List.getElem_toArray, List.getElem_cons_zero, List.getElem_cons_succ]
                        refine wpAnyH_take (i := 30) (v := ?v117) rfl (by kernel_rfl) (by kernel_rfl) (by kernel_rfl) (fun _ _ _ h => h) (Or.inl ⟨by rfl, ?hy117⟩) hH ?rest117
                        case hy117 => (intro w hSw; (try dsimp only at hSw); go_simp; try with_reducible rfl)
                        try simp only [Act.put, List.setIfInBounds_toArray, List.set_cons_zero, List.set_cons_succ, List.getElem_toArray, List.getElem_cons_zero, List.getElem_cons_succ]
                        refine wpAnyH_done (by kernel_rfl) ?_ _
                        clear HP HQ
                        have HB8 := Lib.hid (hB.out.trans (hH.mono hB.out.size))
                        clear HW SB BD hB hH
                        go_wp2
                        go_roundg (l.length - (j + 1))
                        case measure => omega
                        case rel => exact ⟨j + 1, by omega, by go_num, HB8.out⟩
                  · obtain rfl : j = l.length := by omega
                    go_wp2
                    go_roundg (l.length - (k + 1))
                    case measure => omega
                    case rel => exact ⟨k + 1, by omega, by go_num, hB.out⟩
        · obtain rfl : k = l.length := by omega
          have HBX := Lib.hid (HB4.out.trans (hB.out.mono HB4.out.size))
          go_wp2
          go_ret
          exact ⟨rfl, HBX.out⟩
theorem lwaits_any (A : Option Addr) (c : Nat) (l : List No) (hc : l.length ≤ c) (Ad : Option Addr) (cd : Nat) (D : List Is) (hf : Wf l) (hW : Wd D) (w : World) (hs : Nl w w.heap.size A l) (hd : Dl w w.heap.size l) (hi : Il w w.heap.size Ad D) :
    Calls Tryz.prog 4 #[.slice A l.length c, .slice Ad D.length cd] w (UpPost w) := by
  by_cases hfw : fw l = true
  · have h1 := fw_iff.1 hfw
    by_cases hD : D.length ≤ 100
    · exact lwaits_core A c l h1.1 h1.2 hc Ad cd D hD hf hW w hs hd hi
    · have d2 : decide ((100 : Int) < (D.length : Int)) = true := decide_eq_true (by omega)
      have HAw := Lib.hid (awake_any w)
      have HFw := fun W h => Lib.hid (Few_any A c l W h)
      rw [hfw] at HFw
      clear hfw h1 hf hW hd hi
      go_enter Tryz.func4, Tryz.ntmps4
      go_wp2_with fail
      refine HAw.out.mono ?_
      rintro e w1 ⟨rfl, B1⟩
      have HFw1 := HFw w1 (hs.to B1 B1.size)
      go_wp2_with fail
      refine HFw1.out.mono ?_
      rintro e w2 ⟨rfl, rfl⟩
      go_wp2
      go_ret
      exact ⟨rfl, B1⟩
  · have hfw' : fw l = false := by simpa using hfw
    have HAw := Lib.hid (awake_any w)
    have HFw := fun W h => Lib.hid (Few_any A c l W h)
    rw [hfw'] at HFw
    clear hfw hfw' hf hW hd hi
    go_enter Tryz.func4, Tryz.ntmps4
    go_wp2_with fail
    refine HAw.out.mono ?_
    rintro e w1 ⟨rfl, B1⟩
    have HFw1 := HFw w1 (hs.to B1 B1.size)
    go_wp2_with fail
    refine HFw1.out.mono ?_
    rintro e w2 ⟨rfl, rfl⟩
    go_wp2
    go_ret
    exact ⟨rfl, B1⟩
end Go.Proofs.YtgpciipemgljcaaGreat.Od

/-
  Inserting a node into nodes that are sorted, plain; the heads and tails of slices of nodes. No program's function is walked here. No conditions.
-/
namespace Go.Proofs.YtgpciipemgljcaaGreat.Od
open Go.RowKit
set_option linter.unusedVariables false

theorem ls_trans {x y z : No} (h : ls x y = true) (k : ls y z = true) : ls x z = true := by
  rw [ls_iff] at *
  unfold il at *
  omega
/-- Nodes as Less has them, and all of some. -/
structure Sd (o p : List No) : Prop where
  s : o.Pairwise fun x y => ls y x = false
  p : o.Perm p
theorem Sd.nil : Sd [] [] := ⟨List.Pairwise.nil, List.Perm.refl _⟩
theorem Sd.ins {o p : List No} {x : No} {k : Nat} (h : Sd o p) (hk : k ≤ o.length) (hb : ∀ j y, j < k → o[j]? = some y → ls x y = false) (ha : k = o.length ∨ ∃ y, o[k]? = some y ∧ ls x y = true) : Sd (o.take k ++ [x] ++ o.drop k) (p ++ [x]) := by
  have hs : (o.take k ++ o.drop k).Pairwise fun x y => ls y x = false := by rw [List.take_append_drop]; exact h.s
  rw [List.pairwise_append] at hs
  refine ⟨?_, ?_⟩
  · rw [List.append_assoc, List.pairwise_append]
    refine ⟨hs.1, ?_, fun a hA b hB => ?_⟩
    · rw [List.singleton_append, List.pairwise_cons]
      refine ⟨fun b hB => ?_, hs.2.1⟩
      rcases ha with rfl | ⟨y, hy, hl⟩
      · rw [List.drop_length] at hB; cases hB
      · obtain ⟨hk', rfl⟩ := List.getElem?_eq_some_iff.1 hy
        rw [List.drop_eq_getElem_cons hk'] at hB hs
        rcases List.mem_cons.1 hB with rfl | hB
        · exact ls_asym hl
        · have h1 := (List.pairwise_cons.1 hs.2.1).1 b hB
          rcases hbx : ls b x with _ | _
          · rfl
          · rw [ls_trans hbx hl] at h1; cases h1
    · rw [List.singleton_append] at hB
      rcases List.mem_cons.1 hB with rfl | hB
      · obtain ⟨j, hj⟩ := List.getElem?_of_mem hA
        have hjk : j < k := by
          have := (List.getElem?_eq_some_iff.1 hj).1
          simp at this; omega
        rw [List.getElem?_take_of_lt hjk] at hj
        exact hb j a hjk hj
      · exact hs.2.2 a hA b hB
  · have h1 : (o.take k ++ [x] ++ o.drop k).Perm (o.take k ++ o.drop k ++ [x]) := by
      rw [List.append_assoc, List.append_assoc]
      exact List.Perm.append_left _ (List.perm_append_comm)
    rw [List.take_append_drop] at h1
    exact h1.trans (List.Perm.append_right _ h.p)

/-- 's[:k]' and 's[k:]' of nodes. -/
theorem Nl.take {w : World} {B : Nat} {A : Option Addr} {l : List No} (h : Nl w B A l) (n : Nat) : Nl w B A (l.take n) := by
  rcases h with rfl | ⟨b, off, hA, hb, hc⟩
  · exact .inl (by simp)
  · refine .inr ⟨b, off, hA, hb, fun j x hx => hc j x ?_⟩
    rcases Nat.lt_or_ge j n with h | h
    · rwa [List.getElem?_take_of_lt h] at hx
    · rw [List.getElem?_take_eq_none h] at hx; cases hx
theorem Nl.drop {w : World} {B b off : Nat} {l : List No} (h : Nl w B (some ⟨b, off, none⟩) l) (n : Nat) : Nl w B (some ⟨b, off + n * 4, none⟩) (l.drop n) := by
  rcases h with rfl | ⟨b', off', hA, hb, hc⟩
  · exact .inl (by simp)
  · simp only [Option.some.injEq, Addr.mk.injEq, and_true] at hA
    obtain ⟨rfl, rfl⟩ := hA
    refine .inr ⟨b, _, rfl, hb, fun j x hx => ?_⟩
    rw [List.getElem?_drop] at hx
    have := hc _ _ hx
    rw [show off + n * 4 + j * 4 = off + (n + j) * 4 by omega]
    exact this
theorem head_runN {w : World} {B : Nat} {A : Option Addr} {l : List No} (h : Nl w B A l) (c k : Nat) (hk : k ≤ l.length) (hc : l.length ≤ c) :
    ∃ A', (∀ W, (Instr.sliceAt 22 (.slice A l.length c) none (some (.int .i64 (k : Int))) none).run Tryz.prog W = .ok (.slice A' (l.take k).length c) W) ∧
      (∀ W, (Instr.slice 22 (.slice A l.length c) none (some (.int .i64 (k : Int))) none).run Tryz.prog W = .ok (.slice A' (l.take k).length c) W) ∧ Nl w B A' (l.take k) := by
  have eu : Tryz.prog.underlying 22 = some (.slice (Tryz.prog.elem 22)) := by kernel_rfl
  have h2 : ∀ W, (Instr.slice 22 (.slice A l.length c) none (some (.int .i64 (k : Int))) none).run Tryz.prog W = .ok (.slice (if c = 0 then A else A.map (·.add (0 * 4))) (l.take k).length c) W := fun W => by
    rw [run_slice_h W 22 A l.length c eu .i64 k (by omega) (by omega), elem_size22]
    simp [sliced]
    omega
  refine ⟨if c = 0 then A else A.map (·.add (0 * 4)), fun W => by rw [run_sliceAt_slice W 22 _ _ _ _ eu]; exact h2 W, h2, ?_⟩
  rcases h with rfl | ⟨b, off, rfl, hb, hcc⟩
  · simp; exact .nil
  · have h3 : Nl w B (some ⟨b, off, none⟩) l := .inr ⟨b, off, rfl, hb, hcc⟩
    have e : (if c = 0 then (some ⟨b, off, none⟩ : Option Addr) else (some ⟨b, off, none⟩ : Option Addr).map (·.add (0 * 4))) = some ⟨b, off, none⟩ := by
      split <;> simp [Addr.add]
    rw [e]
    exact h3.take k
theorem tail_runN {w : World} {B : Nat} {A : Option Addr} {l : List No} (h : Nl w B A l) (c k : Nat) (hk : k ≤ l.length) (hc : l.length ≤ c) :
    ∃ A', (∀ W, (Instr.sliceAt 22 (.slice A l.length c) (some (.int .i64 (k : Int))) none none).run Tryz.prog W = .ok (.slice A' (l.drop k).length (c - k)) W) ∧
      (∀ W, (Instr.slice 22 (.slice A l.length c) (some (.int .i64 (k : Int))) none none).run Tryz.prog W = .ok (.slice A' (l.drop k).length (c - k)) W) ∧ Nl w B A' (l.drop k) := by
  have eu : Tryz.prog.underlying 22 = some (.slice (Tryz.prog.elem 22)) := by kernel_rfl
  have h2 : ∀ W, (Instr.slice 22 (.slice A l.length c) (some (.int .i64 (k : Int))) none none).run Tryz.prog W = .ok (.slice (if c = k then A else A.map (·.add (k * 4))) (l.drop k).length (c - k)) W := fun W => by
    rw [run_slice_l W 22 A l.length c eu .i64 k (by omega) (by omega), elem_size22]
    simp [sliced]
  refine ⟨if c = k then A else A.map (·.add (k * 4)), fun W => by rw [run_sliceAt_slice W 22 _ _ _ _ eu]; exact h2 W, h2, ?_⟩
  by_cases e : c = k
  · have : l.drop k = [] := List.drop_eq_nil_of_le (by omega)
    rw [this]; exact .nil
  · rw [if_neg e]
    rcases h with rfl | ⟨b, off, rfl, hb, hcc⟩
    · simp; exact .nil
    · have h3 : Nl w B (some ⟨b, off, none⟩) l := .inr ⟨b, off, rfl, hb, hcc⟩
      simp only [Option.map_some, Addr.add_lit]
      exact h3.drop k
end Go.Proofs.YtgpciipemgljcaaGreat.Od

/-
  The walk of the law OrderAgrees. No conditions but what can be read.
-/
namespace Go.Proofs.YtgpciipemgljcaaGreat.Od
open Go.RowKit
set_option linter.unusedVariables false
attribute [local go_sem ↓ high] eq25 guard25 neq25 guard25n

/-- Those of some nodes that are told first. -/
def pk (l : List No) (f : List Bool) (k : Nat) : List No := ((List.range k).filter fun i => f.getD i false).filterMap (l[·]?)
theorem pk_zero (l : List No) (f : List Bool) : pk l f 0 = [] := rfl
theorem pk_yes {l : List No} {f : List Bool} {k : Nat} {x : No} (hx : l[k]? = some x) (hg : f.getD k false = true) : pk l f (k + 1) = pk l f k ++ [x] := by
  rw [List.getD_eq_getElem?_getD] at hg
  simp [pk, List.range_succ, List.filter_append, hg, hx]
theorem pk_no {l : List No} {f : List Bool} {k : Nat} (hg : f.getD k false = false) : pk l f (k + 1) = pk l f k := by
  rw [List.getD_eq_getElem?_getD] at hg
  simp [pk, List.range_succ, List.filter_append, hg]
theorem pk_in {l : List No} {f : List Bool} {k : Nat} {n : No} (h : n ∈ pk l f k) : n ∈ l := by
  unfold pk at h
  rw [List.mem_filterMap] at h
  obtain ⟨a, _, ha⟩ := h
  exact List.mem_of_getElem? ha
theorem pk_len (l : List No) (f : List Bool) (k : Nat) : (pk l f k).length ≤ k := by
  unfold pk
  refine Nat.le_trans (List.length_filterMap_le _ _) (Nat.le_trans (List.length_filter_le _ _) ?_)
  simp
/-- Where an instance is in one list, and in another one of the same instances. -/
theorem ors_wd {l : List No} {D o : List Is} (hf : Wf l) (h : Ors (rd (cs l D) D) o) : Wd o := fun i hi => by
  obtain ⟨n, hn, rfl⟩ := (h.mem i).1 hi
  exact (hf n (cs_in (rd_in hn))).1
theorem pl_out {l : List Is} {i : Is} {z : Int} (h : Pl l i z) (hi : i ∉ l) : z = -1 := by
  rcases h with ⟨h, _⟩ | ⟨k, _, h, _⟩
  · exact h
  · exact absurd (List.mem_of_getElem? h) hi
theorem pl_in {l : List Is} {i : Is} {z : Int} (h : Pl l i z) (hi : i ∈ l) : ∃ k : Nat, z = (k : Int) ∧ l[k]? = some i := by
  rcases h with ⟨_, h⟩ | ⟨k, e, h, _⟩
  · exact absurd hi h
  · exact ⟨k, e, h⟩
/-- How two find two instances: the same way. -/
inductive Fw (w x y z : Int) : Prop
  | a : w = -1 → y = -1 → (x = -1 ∧ z = -1 ∨ (∃ q q' : Nat, x = (q : Int) ∧ z = (q' : Int))) → Fw w x y z
  | b (p p' : Nat) : w = (p : Int) → y = (p' : Int) → x = -1 → z = -1 → Fw w x y z
  | c (p p' q q' : Nat) : w = (p : Int) → y = (p' : Int) → x = (q : Int) → z = (q' : Int) → (p < q ↔ p' < q') → Fw w x y z

set_option maxRecDepth 100000 in
set_option maxHeartbeats 4000000 in
theorem lagrees_core (A : Option Addr) (c : Nat) (l : List No) (hl : l.length ≤ 30) (h7 : F7 l) (hc : l.length ≤ c) (Ab : Option Addr) (cb : Nat) (f : List Bool) (hf : Wf l) (w : World) (hs : Nl w w.heap.size A l) (hd : Dl w w.heap.size l) (hb : Bo w w.heap.size Ab f) :
    Calls Tryz.prog 5 #[.slice A l.length c, .slice Ab f.length cb] w (UpPost w) := by
  obtain ⟨i0, hi0, hz0, hz1, hz2⟩ := info_parts info30
  have HAw := Lib.hid (awake_any w)
  have HFw := fun W h => Lib.hid (Few_any A c l W h)
  have hfw : fw l = true := fw_iff.2 ⟨hl, h7⟩
  rw [hfw] at HFw
  have HRl : ∀ W, Below w.heap.size w W → Hid (Calls Tryz.prog 12 #[.slice A l.length c, .slice none 0 0] W (RdPost W (rd (cs l []) []))) := fun W hB =>
    Ready_any A c l (by omega) hc none 0 [] (by simp) hf (fun _ h => by cases h) h7 (Nat.le_trans (cs_len l []) hl) W (hs.to hB hB.size) (hd.to hB hB.size) .nil
  have HRp : ∀ W A5 c5 (p : List No), (∀ n ∈ p, n ∈ l) → p.length ≤ 30 → p.length ≤ c5 → Below w.heap.size w W → Nl W W.heap.size A5 p → Hid (Calls Tryz.prog 12 #[.slice A5 p.length c5, .slice none 0 0] W (RdPost W (rd (cs p []) []))) := fun W A5 c5 p hp hpl hpc hB hN =>
    Ready_any A5 c5 p (by omega) hpc none 0 [] (by simp) (hf.sub hp) (fun _ h => by cases h) (fun n hn => h7 n (hp n hn)) (Nat.le_trans (cs_len p []) hpl) W hN ((hd.sub hp).to hB hB.size) .nil
  have HRo : ∀ W A7 c7 (o : List Is), Wd o → o.length ≤ 1000 → Below w.heap.size w W → Il W W.heap.size A7 o → Hid (Calls Tryz.prog 12 #[.slice A l.length c, .slice A7 o.length c7] W (RdPost W (rd (cs l o) o))) := fun W A7 c7 o ho hol hB hI =>
    Ready_any A c l (by omega) hc A7 c7 o hol hf ho h7 (Nat.le_trans (cs_len l o) hl) W (hs.to hB hB.size) (hd.to hB hB.size) hI
  have HS := Lib.hid hs
  have HD0 := Lib.hid hd
  have HF := Lib.hid hf
  have HBo := Lib.hid hb
  have H7 := Lib.hid h7
  clear hs hd hf h7 hfw hb
  go_enter Tryz.func5, Tryz.ntmps5
  go_wp2_with fail
  refine HAw.out.mono ?_
  rintro e w1 ⟨rfl, B1⟩
  have HFw1 := HFw w1 (HS.out.to B1 B1.size)
  go_wp2_with fail
  refine HFw1.out.mono ?_
  rintro e w2 ⟨rfl, rfl⟩
  have HB1 := Lib.hid B1
  clear HAw HFw HFw1 B1
  go_wp2
  go_loopg [7, 8] l.length (fun q v t W => ∃ k : Nat, k + q = l.length ∧ t = .int .i64 (k : Int) ∧ Hid (W.ownsRow w2.heap.size 30 4 v (pk l f k).length (ncs (pk l f k))) ∧ Hid (Dk l k) ∧ Hid (Below w2.heap.size w2 W))
  case atStart => exact ⟨0, by omega, rfl, World.ownsRow_nil _ _ _ _, Dk.zero l, Below.refl _ _⟩
  case round =>
    obtain ⟨k, hk, rfl, hown, hDk, hB⟩ := hrel
    by_cases hlt : k < l.length
    · have hki : (k : Int) < (l.length : Int) := by omega
      have hk0 : (0 : Int) ≤ (k : Int) := by omega
      have HX := Lib.hid (List.getElem?_eq_getElem hlt)
      have hpl := pk_len l f k
      generalize l[k] = x at *
      by_cases hkf : k < f.length
      · have hkfi : (k : Int) < (f.length : Int) := by omega
        have t1 : decide ((k : Int) < (f.length : Int)) = true := decide_eq_true hkfi
        have t2 : decide (k < f.length) = true := decide_eq_true hkf
        have HG : Hid (f.getD k false = f[k]) := by show _ = _; simp [List.getD_eq_getElem?_getD, List.getElem?_eq_getElem hkf]
        obtain ⟨bb, offb, rfl, pb⟩ := HBo.out.at_ (HB1.out.trans (hB.out.mono HB1.out.size)) (List.getElem?_eq_getElem hkf)
        generalize f[k] = v at *
        clear t2
        rcases v with _ | _
        · have HE := Lib.hid (pk_no (l := l) HG.out)
          have H10 : Hid (wr.ownsRow w2.heap.size 30 4 u7 (pk l f (k + 1)).length (ncs (pk l f (k + 1)))) := by
            show World.ownsRow _ _ _ _ _ _ _
            rw [HE.out]; exact hown.out
          have HBw := Lib.hid hB.out
          clear hown hB HG HE
          go_wp2
          obtain ⟨V, hV⟩ : ∃ V, V = wr := ⟨_, rfl⟩
          subst hV
          clear pb
          go_loopg [9] k (fun q t W => ∃ j : Nat, j + q = k ∧ t = .int .i64 (j : Int) ∧ Hid (Below V.heap.size V W) ∧ Hid (∀ b y, b < j → l[b]? = some y → x.i ≠ y.i))
          case atStart => exact ⟨0, by omega, rfl, Below.refl _ _, fun b y h => by omega⟩
          case round =>
            obtain ⟨j, hj, rfl, hbV, hne⟩ := hrel
            have hVs := HBw.out.size
            have HBr := Lib.hid (HBw.out.trans (hbV.out.mono hVs))
            have HBa := Lib.hid (HB1.out.trans (HBr.out.mono HB1.out.size))
            by_cases hjt : j < k
            · have hji : (j : Int) < (k : Int) := by omega
              have hjl : (j : Int) < (l.length : Int) := by omega
              have hj0 : (0 : Int) ≤ (j : Int) := by omega
              have HY := Lib.hid (List.getElem?_eq_getElem (show j < l.length by omega))
              have hNw := HS.out.to HBa.out HBa.out.size
              obtain ⟨b1, o1, e1, hb1, p0, p1, p2, p3⟩ := hNw.at_ HX.out
              first | cases e1 | subst e1
              obtain ⟨b2, off2, e2, hb2, q0, q1, q2, q3⟩ := hNw.at_ HY.out
              cases e2
              generalize l[j] = y at *
              clear p2 p3 q2 q3 hNw
              by_cases he : (x.b, x.s) = (y.b, y.s)
              · have hq := same_yes he
                clear he
                go_wp2_with fail
                go_quiet (fail)
                go_wp2
                go_ret
                exact ⟨rfl, Gp.below_drewN HBa.out _⟩
              · have hq := same_no he
                have HN2 : Hid (∀ b y, b < j + 1 → l[b]? = some y → x.i ≠ y.i) := fun b z hb hz => by
                  rcases Nat.lt_or_ge b j with h | h
                  · exact hne.out b z h hz
                  · obtain rfl : b = j := by omega
                    rw [HY.out] at hz
                    cases hz
                    exact he
                clear he
                go_wp2_with fail
                go_quiet (fail)
                go_wp2
                go_roundg (k - (j + 1))
                case measure => omega
                case rel => exact ⟨j + 1, by omega, by go_num, Gp.below_drewN hbV.out _, HN2.out⟩
            · obtain rfl : j = k := by omega
              have HDk2 := Lib.hid (hDk.out.succ HX.out hne.out)
              have H12 := Lib.hid (ownk H10.out hbV.out)
              go_wp2
              go_roundg (l.length - (j + 1))
              case measure => omega
              case rel => exact ⟨j + 1, by omega, by go_num, H12.out, HDk2.out, HBr.out⟩
        · have HE := Lib.hid (pk_yes HX.out HG.out)
          obtain ⟨b, off, rfl, hbl, p0, p1, p2, p3⟩ := (HS.out.to (HB1.out.trans (hB.out.mono HB1.out.size)) (HB1.out.trans (hB.out.mono HB1.out.size)).size).at_ HX.out
          obtain ⟨xb, xs, xq, xd, xh, xc⟩ := x
          simp only at *
          have H10 := Lib.hid (hown.out.alloc (no ⟨xb, xs, xq, xd, xh, xc⟩))
          have HB7 := Lib.hid (hB.out.alloc hB.out.size (no ⟨xb, xs, xq, xd, xh, xc⟩))
          have hsz := hB.out.size
          simp only [no] at H10 HB7
          clear hown hB HG
          go_wp2_with (at_builtin; refine wpList_append_own_at _ rfl _ _ 22 rfl w2.heap.size 30 i0 (.agg #[.int .i64 0, .int .i64 0, .int .i64 0, .slice none 0 0]) 4 48 Tryz.underlying22 hi0 hz0 hz1 hz2 rfl (by decide) _ (pk l f k).length (ncs (pk l f k)) rfl H10.out ⟨wr.heap.size, 0, none⟩ 1 1 [.int .i64 xb, .int .i64 xs, .int .i64 xq, .slice xh xd.length xc] rfl rfl (cell_four_new _ _ _ _ _ _) (by simp [Value.oneCell']) (by unfold maxLen; omega) (by omega) (by simp; omega) ?_; intro v' w9 hown9 hgrow9 hx9 hat9)
          have HBw := Lib.hid (HB7.out.grown hgrow9 HB7.out.size (fun r hr => (H10.out.lt r hr).1))
          have H11 : Hid (w9.ownsRow w2.heap.size 30 4 v' (pk l f (k + 1)).length (ncs (pk l f (k + 1)))) := by
            show World.ownsRow _ _ _ _ _ _ _
            rw [HE.out, List.length_append, ncs_append]
            exact hown9
          clear hown9 hgrow9 H10 HB7 p0 p1 p2 p3 pb HE hat9 hx9
          have H10 := Lib.hid H11.out
          clear H11
          go_wp2
          obtain ⟨V, hV⟩ : ∃ V, V = w9 := ⟨_, rfl⟩
          subst hV
          go_loopg [9] k (fun q t W => ∃ j : Nat, j + q = k ∧ t = .int .i64 (j : Int) ∧ Hid (Below V.heap.size V W) ∧ Hid (∀ b y, b < j → l[b]? = some y → (No.i ⟨xb, xs, xq, xd, xh, xc⟩) ≠ y.i))
          case atStart => exact ⟨0, by omega, rfl, Below.refl _ _, fun b y h => by omega⟩
          case round =>
            obtain ⟨j, hj, rfl, hbV, hne⟩ := hrel
            have hVs := HBw.out.size
            have HBr := Lib.hid (HBw.out.trans (hbV.out.mono hVs))
            have HBa := Lib.hid (HB1.out.trans (HBr.out.mono HB1.out.size))
            by_cases hjt : j < k
            · have hji : (j : Int) < (k : Int) := by omega
              have hjl : (j : Int) < (l.length : Int) := by omega
              have hj0 : (0 : Int) ≤ (j : Int) := by omega
              have HY := Lib.hid (List.getElem?_eq_getElem (show j < l.length by omega))
              have hNw := HS.out.to HBa.out HBa.out.size
              obtain ⟨b1, o1, e1, hb1, p0, p1, p2, p3⟩ := hNw.at_ HX.out
              first | cases e1 | subst e1
              obtain ⟨b2, off2, e2, hb2, q0, q1, q2, q3⟩ := hNw.at_ HY.out
              cases e2
              generalize l[j] = y at *
              clear p2 p3 q2 q3 hNw
              by_cases he : (xb, xs) = (y.b, y.s)
              · have hq := same_yes he
                clear he
                go_wp2_with fail
                go_quiet (fail)
                go_wp2
                go_ret
                exact ⟨rfl, Gp.below_drewN HBa.out _⟩
              · have hq := same_no he
                have HN2 : Hid (∀ b y, b < j + 1 → l[b]? = some y → (No.i ⟨xb, xs, xq, xd, xh, xc⟩) ≠ y.i) := fun b z hb hz => by
                  rcases Nat.lt_or_ge b j with h | h
                  · exact hne.out b z h hz
                  · obtain rfl : b = j := by omega
                    rw [HY.out] at hz
                    cases hz
                    exact he
                clear he
                go_wp2_with fail
                go_quiet (fail)
                go_wp2
                go_roundg (k - (j + 1))
                case measure => omega
                case rel => exact ⟨j + 1, by omega, by go_num, Gp.below_drewN hbV.out _, HN2.out⟩
            · obtain rfl : j = k := by omega
              have HDk2 := Lib.hid (hDk.out.succ HX.out hne.out)
              have H12 := Lib.hid (ownk H10.out hbV.out)
              go_wp2
              go_roundg (l.length - (j + 1))
              case measure => omega
              case rel => exact ⟨j + 1, by omega, by go_num, H12.out, HDk2.out, HBr.out⟩
      · have t1 : decide ((k : Int) < (f.length : Int)) = false := decide_eq_false (by omega)
        have t2 : decide (k < f.length) = false := decide_eq_false hkf
        have HG : f.getD k false = false := by simp [List.getD_eq_getElem?_getD, List.getElem?_eq_none (Nat.le_of_not_lt hkf)]
        have HE := Lib.hid (pk_no (l := l) HG)
        have H10 : Hid (wr.ownsRow w2.heap.size 30 4 u7 (pk l f (k + 1)).length (ncs (pk l f (k + 1)))) := by
          show World.ownsRow _ _ _ _ _ _ _
          rw [HE.out]; exact hown.out
        have HBw := Lib.hid hB.out
        clear hown hB HG HE
        go_wp2
        obtain ⟨V, hV⟩ : ∃ V, V = wr := ⟨_, rfl⟩
        subst hV
        go_loopg [9] k (fun q t W => ∃ j : Nat, j + q = k ∧ t = .int .i64 (j : Int) ∧ Hid (Below V.heap.size V W) ∧ Hid (∀ b y, b < j → l[b]? = some y → x.i ≠ y.i))
        case atStart => exact ⟨0, by omega, rfl, Below.refl _ _, fun b y h => by omega⟩
        case round =>
          obtain ⟨j, hj, rfl, hbV, hne⟩ := hrel
          have hVs := HBw.out.size
          have HBr := Lib.hid (HBw.out.trans (hbV.out.mono hVs))
          have HBa := Lib.hid (HB1.out.trans (HBr.out.mono HB1.out.size))
          by_cases hjt : j < k
          · have hji : (j : Int) < (k : Int) := by omega
            have hjl : (j : Int) < (l.length : Int) := by omega
            have hj0 : (0 : Int) ≤ (j : Int) := by omega
            have HY := Lib.hid (List.getElem?_eq_getElem (show j < l.length by omega))
            have hNw := HS.out.to HBa.out HBa.out.size
            obtain ⟨b1, o1, e1, hb1, p0, p1, p2, p3⟩ := hNw.at_ HX.out
            first | cases e1 | subst e1
            obtain ⟨b2, off2, e2, hb2, q0, q1, q2, q3⟩ := hNw.at_ HY.out
            cases e2
            generalize l[j] = y at *
            clear p2 p3 q2 q3 hNw
            by_cases he : (x.b, x.s) = (y.b, y.s)
            · have hq := same_yes he
              clear he
              go_wp2_with fail
              go_quiet (fail)
              go_wp2
              go_ret
              exact ⟨rfl, Gp.below_drewN HBa.out _⟩
            · have hq := same_no he
              have HN2 : Hid (∀ b y, b < j + 1 → l[b]? = some y → x.i ≠ y.i) := fun b z hb hz => by
                rcases Nat.lt_or_ge b j with h | h
                · exact hne.out b z h hz
                · obtain rfl : b = j := by omega
                  rw [HY.out] at hz
                  cases hz
                  exact he
              clear he
              go_wp2_with fail
              go_quiet (fail)
              go_wp2
              go_roundg (k - (j + 1))
              case measure => omega
              case rel => exact ⟨j + 1, by omega, by go_num, Gp.below_drewN hbV.out _, HN2.out⟩
          · obtain rfl : j = k := by omega
            have HDk2 := Lib.hid (hDk.out.succ HX.out hne.out)
            have H12 := Lib.hid (ownk H10.out hbV.out)
            go_wp2
            go_roundg (l.length - (j + 1))
            case measure => omega
            case rel => exact ⟨j + 1, by omega, by go_num, H12.out, HDk2.out, HBr.out⟩
    · obtain rfl : k = l.length := by omega
      have HDi : Hid (Di l) := hDk.out.di
      have hpl := pk_len l f l.length
      have HPin : Hid (∀ n ∈ pk l f l.length, n ∈ l) := fun n hn => pk_in hn
      have H5 := hown.out
      have hB5 := hB.out
      generalize pk l f l.length = s at *
      obtain ⟨A5, c5, rfl, hN5, -⟩ := own_nl H5
      have hc5 := own_cap H5
      have HB5 := Lib.hid (HB1.out.trans (hB5.mono HB1.out.size))
      have HN5 := Lib.hid hN5
      have HR1 := HRl wr HB5.out
      clear hown hB hDk H5 hB5 hN5 HRl
      go_wp2_with fail
      refine HR1.out.mono ?_
      rintro e w6 ⟨v6, o1, rfl, hr6, ho6, b6⟩
      obtain ⟨A6, c6, rfl, hI6, -⟩ := own_il ho6
      have HO1 := Lib.hid (hr6.ors (rd_ri l []))
      have h1l : o1.length ≤ 900 := hr6.len (m := 30) (Nat.le_trans (rdk_len _ _ _) (Nat.le_trans (cs_len l []) hl))
      have HB6 := Lib.hid (HB5.out.trans (b6.mono HB5.out.size))
      have HI6 := Lib.hid hI6
      have HR2 := HRp w6 A5 c5 s HPin.out (by omega) hc5 HB6.out (HN5.out.to b6 b6.size)
      clear HR1 HRp hr6 ho6 hI6 b6 HN5 hc5 HB5
      go_wp2_with fail
      refine HR2.out.mono ?_
      rintro e w7 ⟨v7, o2, rfl, hr7, ho7, b7⟩
      obtain ⟨A7, c7, rfl, hI7, -⟩ := own_il ho7
      have HO2 := Lib.hid (hr7.ors (rd_ri s []))
      have h2l : o2.length ≤ 900 := hr7.len (m := 30) (Nat.le_trans (rdk_len _ _ _) (Nat.le_trans (cs_len s []) (by omega)))
      have HB7 := Lib.hid (HB6.out.trans (b7.mono HB6.out.size))
      have hs67 : w6.heap.size ≤ w7.heap.size := b7.size
      have HI6b := Lib.hid (HI6.out.below b7 (Nat.le_refl _))
      have HR3 := HRo w7 A7 c7 o2 (ors_wd (HF.out.sub HPin.out) HO2.out) (by omega) HB7.out hI7
      have H7o := Lib.hid ho7
      clear HR2 HRo hr7 ho7 hI7 b7 HI6
      go_wp2_with fail
      refine HR3.out.mono ?_
      rintro e w8 ⟨v8, o3, rfl, hr8, ho8, b8⟩
      obtain ⟨A8, c8, rfl, hI8, -⟩ := own_il ho8
      have HO3 := Lib.hid (hr8.ors (rd_ri l o2))
      have h3l : o3.length ≤ 900 := hr8.len (m := 30) (Nat.le_trans (rdk_len _ _ _) (Nat.le_trans (cs_len l o2) hl))
      have HB8 := Lib.hid (HB7.out.trans (b8.mono HB7.out.size))
      have hs78 : w7.heap.size ≤ w8.heap.size := b8.size
      have HI6c := Lib.hid (HI6b.out.below (b8.mono hs67) (Nat.le_refl _))
      have H7p := Lib.hid (ownk H7o.out b8)
      have HI8 := Lib.hid hI8
      have HLen := Lib.hid (agree_len H7.out (show l.length ≤ 100 by omega) HDi.out HPin.out HO1.out HO2.out HO3.out)
      have HMem := Lib.hid (agree_mem H7.out (show l.length ≤ 100 by omega) HDi.out HPin.out HO1.out HO2.out HO3.out)
      have HOrd := Lib.hid (fun (x y : No) (hx : x ∈ l) (hy : y ∈ l) (hn : x.i ≠ y.i) (hw : wa x y.i = true) (p q p' q' : Nat) (hp : o1[p]? = some x.i) (hq : o1[q]? = some y.i) (hp' : (o2 ++ o3)[p']? = some x.i) (hq' : (o2 ++ o3)[q']? = some y.i) => agree_order H7.out (show l.length ≤ 100 by omega) HDi.out HPin.out HO1.out HO2.out HO3.out hx hy hn hw hp hq hp' hq')
      have hsz67 : w6.heap.size ≤ w8.heap.size := Nat.le_trans hs67 hs78
      clear HR3 hr8 ho8 hI8 b8 HI6b H7o HO1 HO2 HO3
      go_wp2_with (at_builtin; refine wpList_appI rfl (.tmp 75) (.tmp 76) rfl _ (by rfl) o2 w6.heap.size H7p.out A8 o3.length c8 (by rfl) o3 rfl w8.heap.size HI8.out (by omega) hsz67 ?_; intro v9 w9 own9 grow9; obtain ⟨Ab9, cb9, hv9, hIb, -⟩ := own_il own9; rw [← HLen.out] at hv9; subst hv9)
      have hw6 := HB6.out.size
      have B9 : Below w6.heap.size w8 w9 := (Below.refl w6.heap.size w8).grown grow9 hsz67 (fun r hr => (H7p.out.lt r hr).1)
      have HB9 := Lib.hid (HB8.out.trans (B9.mono hw6))
      have HI1 : Hid (Il w9 w9.heap.size A6 o1) := (HI6c.out.below B9 (Nat.le_refl _)).mono (Nat.le_trans hsz67 B9.size)
      have HIb := Lib.hid hIb
      have HN9 := Lib.hid (HS.out.to HB9.out HB9.out.size)
      have HD9 := Lib.hid (HD0.out.to HB9.out HB9.out.size)
      have hobl : (o2 ++ o3).length ≤ 1000 := by rw [← HLen.out]; omega
      generalize o2 ++ o3 = ob at *
      have HPa : ∀ (i : Is) V, Below w9.heap.size w9 V → Hid (Calls Tryz.prog 18 #[.slice A6 o1.length c6, iv i] V (fun e w' => ∃ z, e = .returned (.int .i64 z) ∧ Pl o1 i z ∧ Below V.heap.size V w')) := fun i V hV => place_any A6 c6 o1 i (by omega) V (HI1.out.to hV hV.size)
      have HPb : ∀ (i : Is) V, Below w9.heap.size w9 V → Hid (Calls Tryz.prog 18 #[.slice Ab9 o1.length cb9, iv i] V (fun e w' => ∃ z, e = .returned (.int .i64 z) ∧ Pl ob i z ∧ Below V.heap.size V w')) := fun i V hV => by
        have := place_any Ab9 cb9 ob i hobl V (HIb.out.to hV hV.size)
        rw [← HLen.out] at this
        exact this
      clear HLen own9 grow9 hIb HI1 HIb HI6c HI8 H7p HB8 HB7 HB6 B9 HS HD0 hobl h1l h2l h3l hsz67 hw6 H7 HPin hpl
      generalize o1.length = n1 at *
      go_wp2
      go_loopg [13] l.length (fun q t W => ∃ k : Nat, k + q = l.length ∧ t = .int .i64 (k : Int) ∧ Hid (Below w9.heap.size w9 W))
      case atStart => exact ⟨0, by omega, rfl, Below.refl _ _⟩
      case round =>
        obtain ⟨k, hk, rfl, hB⟩ := hrel
        by_cases hlt : k < l.length
        · have hki : (k : Int) < (l.length : Int) := by omega
          have hk0 : (0 : Int) ≤ (k : Int) := by omega
          have HX := Lib.hid (List.getElem?_eq_getElem hlt)
          have HMx := Lib.hid (List.getElem_mem hlt)
          have HDX := Lib.hid (HD9.out _ HMx.out)
          generalize l[k] = x at *
          go_wp2
          go_loopg [14] l.length (fun q t W => ∃ j : Nat, j + q = l.length ∧ t = .int .i64 (j : Int) ∧ Hid (Below w9.heap.size w9 W))
          case atStart => exact ⟨0, by omega, rfl, hB.out⟩
          case round =>
            clear hB
            obtain ⟨j, hj, rfl, hB⟩ := hrel
            by_cases hjt : j < l.length
            · have hji : (j : Int) < (l.length : Int) := by omega
              have hj0 : (0 : Int) ≤ (j : Int) := by omega
              have HY := Lib.hid (List.getElem?_eq_getElem hjt)
              have HMy := Lib.hid (List.getElem_mem hjt)
              have HFY := Lib.hid ((HF.out _ HMy.out).1.1.2)
              generalize l[j] = y at *
              obtain ⟨b, off, rfl, hb0, p0, p1, p2, p3⟩ := HN9.out.at_ HX.out
              obtain ⟨b', off', e', hb0', r0, r1, r2, r3⟩ := HN9.out.at_ HY.out
              cases e'
              have HCc : Hid (∀ V, Below w9.heap.size w9 V → V.cell? ⟨b, off + k * 4, none⟩ = some (.int .i64 x.b) ∧ V.cell? ⟨b, off + k * 4 + 1, none⟩ = some (.int .i64 x.s) ∧ V.cell? ⟨b, off + k * 4 + 2, none⟩ = some (.int .i64 x.q) ∧ V.cell? ⟨b, off + k * 4 + 3, none⟩ = some (.slice x.h x.d.length x.c) ∧ V.cell? ⟨b, off + j * 4, none⟩ = some (.int .i64 y.b) ∧ V.cell? ⟨b, off + j * 4 + 1, none⟩ = some (.int .i64 y.s)) := Lib.hid (fun V g => ⟨(World.cell?_of_block (g.block _ hb0)).trans p0, (World.cell?_of_block (g.block _ hb0)).trans p1, (World.cell?_of_block (g.block _ hb0)).trans p2, (World.cell?_of_block (g.block _ hb0)).trans p3, (World.cell?_of_block (g.block _ hb0)).trans r0, (World.cell?_of_block (g.block _ hb0)).trans r1⟩)
              have HW : ∀ V, Below wr.heap.size wr V → Hid (Calls Tryz.prog 20 #[.agg #[.int .i64 x.q, .slice x.h x.d.length x.c], iv y.i] V (At.BoolPost V (wa x y.i))) := fun V hV =>
                At.waits_any x.q y.b y.s x.h x.c x.d V ((HDX.out.to hB.out hB.out.size).to hV hV.size) HFY.out
              have HPax := HPa x.i
              have HPay := HPa y.i
              have HPbx := HPb x.i
              have HPby := HPb y.i
              have HFw : Hid (k ≠ j → wa x y.i = true → ∀ z1 z2 z3 z4 : Int, Pl o1 x.i z1 → Pl o1 y.i z2 → Pl ob x.i z3 → Pl ob y.i z4 → Fw z1 z2 z3 z4) := fun hn hw z1 z2 z3 z4 h1 h2 h3 h4 => by
                have hxy : x.i ≠ y.i := fun e => hn (nd_at (i := x.i) (show (l.map No.i).Nodup from HDi.out) (by rw [List.getElem?_map, HX.out]; rfl) (by rw [List.getElem?_map, HY.out, e]; rfl))
                by_cases mx : x.i ∈ o1
                · obtain ⟨p, rfl, hp⟩ := pl_in h1 mx
                  obtain ⟨p', rfl, hp'⟩ := pl_in h3 ((HMem.out _).1 mx)
                  by_cases my : y.i ∈ o1
                  · obtain ⟨q, rfl, hq⟩ := pl_in h2 my
                    obtain ⟨q', rfl, hq'⟩ := pl_in h4 ((HMem.out _).1 my)
                    exact .c p p' q q' rfl rfl rfl rfl (HOrd.out x y HMx.out HMy.out hxy hw p q p' q' hp hq hp' hq')
                  · exact .b p p' rfl rfl (pl_out h2 my) (pl_out h4 fun h => my ((HMem.out _).2 h))
                · refine .a (pl_out h1 mx) (pl_out h3 fun h => mx ((HMem.out _).2 h)) ?_
                  by_cases my : y.i ∈ o1
                  · obtain ⟨q, rfl, hq⟩ := pl_in h2 my
                    obtain ⟨q', rfl, hq'⟩ := pl_in h4 ((HMem.out _).1 my)
                    exact .inr ⟨q, q', rfl, rfl⟩
                  · exact .inl ⟨pl_out h2 my, pl_out h4 fun h => my ((HMem.out _).2 h)⟩
              generalize wa x y.i = wv at *
              obtain ⟨xb, xs, xq, xd, xh, xc⟩ := x
              obtain ⟨yb, ys, yq, yd, yh, yc⟩ := y
              simp only [iv, No.i] at *
              have SB : Hid (∀ v, Below wr.heap.size wr v → v.cell? ⟨b, off + k * 4 + 2, none⟩ = some (.int .i64 xq) ∧ v.cell? ⟨b, off + k * 4 + 3, none⟩ = some (.slice xh xd.length xc) ∧ v.cell? ⟨b, off + j * 4, none⟩ = some (.int .i64 yb) ∧ v.cell? ⟨b, off + j * 4 + 1, none⟩ = some (.int .i64 ys)) := Lib.hid (fun v g => by
                obtain ⟨_, _, g0, g1, g2, g3⟩ := HCc.out v (hB.out.trans (g.mono hB.out.size))
                exact ⟨g0, g1, g2, g3⟩)
              have BD : Hid (Below wr.heap.size wr wr.drew) := (Below.refl _ _).drew
              clear p0 p1 p2 p3 r0 r1 r2 r3 hb0 hb0' HMy HFY
              rcases wv with _ | _
              · go_wp2_with fail
                refine wp_region_held_drew (S := fun v => Below wr.heap.size wr v) (by kernel_rfl) BD.out (fun hH => ?_)
                refine wpAnyH_take (i := 0) (v := ?v1) rfl (by kernel_rfl) (by kernel_rfl) (by kernel_rfl) (fun _ _ _ h => h) (Or.inl ⟨by rfl, ?hy1⟩) hH ?rest1
                case hy1 => (intro w hSw; (try dsimp only at hSw); go_simp; try with_reducible rfl)
                try simp only [Act.put, List.setIfInBounds_toArray, List.set_cons_zero, List.set_cons_succ, List.getElem_toArray, List.getElem_cons_zero]
                refine wpAnyH_take (i := 1) (v := ?v2) rfl (by kernel_rfl) (by kernel_rfl) (by kernel_rfl) (fun _ _ _ h => h) (Or.inl ⟨by rfl, ?hy2⟩) hH ?rest2
                case hy2 => (intro w hSw; (try dsimp only at hSw); go_simp; try with_reducible rfl)
                try simp only [Act.put, List.setIfInBounds_toArray, List.set_cons_zero, List.set_cons_succ, List.getElem_toArray, List.getElem_cons_zero, List.getElem_cons_succ]
                refine wpAnyH_take (i := 5) (v := ?v3) rfl (by kernel_rfl) (by kernel_rfl) (by kernel_rfl) (fun _ _ _ h => h) (Or.inl ⟨by rfl, ?hy3⟩) hH ?rest3
                case hy3 => (intro w hSw; (try dsimp only at hSw); go_simp; try with_reducible rfl)
                try simp only [Act.put, List.setIfInBounds_toArray, List.set_cons_zero, List.set_cons_succ, List.getElem_toArray, List.getElem_cons_zero, List.getElem_cons_succ]
                refine wpAnyH_take (i := 6) (v := ?v4) rfl (by kernel_rfl) (by kernel_rfl) (by kernel_rfl) (fun _ _ _ h => h) (Or.inl ⟨by rfl, ?hy4⟩) hH ?rest4
                case hy4 => (intro w hSw; (try dsimp only at hSw); go_simp; try with_reducible rfl)
                try simp only [Act.put, List.setIfInBounds_toArray, List.set_cons_zero, List.set_cons_succ, List.getElem_toArray, List.getElem_cons_zero, List.getElem_cons_succ]
                refine wpAnyH_take (i := 2) (v := ?v5) rfl (by kernel_rfl) (by kernel_rfl) (by kernel_rfl) (fun _ _ _ h => h) (Or.inl ⟨by rfl, ?hy5⟩) hH ?rest5
                case hy5 => (intro w hSw; (try dsimp only at hSw); go_simp; try with_reducible rfl)
                try simp only [Act.put, List.setIfInBounds_toArray, List.set_cons_zero, List.set_cons_succ, List.getElem_toArray, List.getElem_cons_zero, List.getElem_cons_succ]
                refine wpAnyH_take (i := 7) (v := ?v6) rfl (by kernel_rfl) (by kernel_rfl) (by kernel_rfl) (fun _ _ _ h => h) (Or.inl ⟨by rfl, ?hy6⟩) hH ?rest6
                case hy6 => (intro w hSw; (try dsimp only at hSw); go_simp; try with_reducible rfl)
                try simp only [Act.put, List.setIfInBounds_toArray, List.set_cons_zero, List.set_cons_succ, List.getElem_toArray, List.getElem_cons_zero, List.getElem_cons_succ]
                refine wpAnyH_take (i := 3) (v := ?v7) rfl (by kernel_rfl) (by kernel_rfl) (by kernel_rfl) (fun _ _ _ h => h) (Or.inl ⟨by rfl, ?hy7⟩) hH ?rest7
                case hy7 => (intro w hSw; (try dsimp only at hSw); go_simp; try with_reducible rfl)
                try simp only [Act.put, List.setIfInBounds_toArray, List.set_cons_zero, List.set_cons_succ, List.getElem_toArray, List.getElem_cons_zero, List.getElem_cons_succ]
                refine wpAnyH_take (i := 8) (v := ?v8) rfl (by kernel_rfl) (by kernel_rfl) (by kernel_rfl) (fun _ _ _ h => h) (Or.inl ⟨by rfl, ?hy8⟩) hH ?rest8
                case hy8 => (intro w hSw; (try dsimp only at hSw); go_simp; try with_reducible rfl)
                try simp only [Act.put, List.setIfInBounds_toArray, List.set_cons_zero, List.set_cons_succ, List.getElem_toArray, List.getElem_cons_zero, List.getElem_cons_succ]
                refine wpAnyH_take (i := 4) (v := ?v9) rfl (by kernel_rfl) (by kernel_rfl) (by kernel_rfl) (fun _ _ _ h => h) (Or.inl ⟨by rfl, ?hy9⟩) hH ?rest9
                case hy9 => (intro w hSw; (try dsimp only at hSw); obtain ⟨f0, f1, f2, f3⟩ := SB.out w hSw; go_simp; try with_reducible rfl)
                try simp only [Act.put, List.setIfInBounds_toArray, List.set_cons_zero, List.set_cons_succ, List.getElem_toArray, List.getElem_cons_zero, List.getElem_cons_succ]
                refine wpAnyH_take (i := 9) (v := ?v10) rfl (by kernel_rfl) (by kernel_rfl) (by kernel_rfl) (fun _ _ _ h => h) (Or.inl ⟨by rfl, ?hy10⟩) hH ?rest10
                case hy10 => (intro w hSw; (try dsimp only at hSw); obtain ⟨f0, f1, f2, f3⟩ := SB.out w hSw; go_simp; try with_reducible rfl)
                try simp only [Act.put, List.setIfInBounds_toArray, List.set_cons_zero, List.set_cons_succ, List.getElem_toArray, List.getElem_cons_zero, List.getElem_cons_succ]
                refine wpAnyH_ready (rs := [10]) (by kernel_rfl) (by simp) ?_
                refine AllReadyH.cons rfl (fun K hK => ?_) AllReadyH.nil
                go_simp
                go_at_call 20
                with_reducible refine (HW _ hH).out.mono ?_
                rintro e wq11 ⟨rfl, bq11⟩
                go_wp2_with fail
                refine hK.out _ _ (hH.trans (bq11.mono hH.size)) (fun hH2 => ?_)
                clear hK K hH
                have hH := hH2
                clear hH2
                try simp only [Act.put, List.setIfInBounds_toArray, List.set_cons_zero, List.set_cons_succ, List.getElem_toArray, List.getElem_cons_zero, List.getElem_cons_succ]
                refine wpAnyH_take (i := 11) (v := ?v12) rfl (by kernel_rfl) (by kernel_rfl) (by kernel_rfl) (fun _ _ _ h => h) (Or.inl ⟨by rfl, ?hy12⟩) hH ?rest12
                case hy12 => (intro w hSw; (try dsimp only at hSw); go_simp; try with_reducible rfl)
                try simp only [Act.put, List.setIfInBounds_toArray, List.set_cons_zero, List.set_cons_succ, List.getElem_toArray, List.getElem_cons_zero, List.getElem_cons_succ]
                refine wpAnyH_take (i := 12) (v := ?v13) rfl (by kernel_rfl) (by kernel_rfl) (by kernel_rfl) (fun _ _ _ h => h) (Or.inl ⟨by rfl, ?hy13⟩) hH ?rest13
                case hy13 => (intro w hSw; (try dsimp only at hSw); go_simp; try with_reducible rfl)
                try simp only [Act.put, List.setIfInBounds_toArray, List.set_cons_zero, List.set_cons_succ, List.getElem_toArray, List.getElem_cons_zero, List.getElem_cons_succ]
                refine wpAnyH_take (i := 13) (v := undef) rfl (by kernel_rfl) (by kernel_rfl) (by kernel_rfl) (fun _ _ _ h => h) (Or.inr ⟨by rfl, rfl⟩) hH ?rest14
                try simp only [Act.put, List.setIfInBounds_toArray, List.set_cons_zero, List.set_cons_succ, List.getElem_toArray, List.getElem_cons_zero, List.getElem_cons_succ]
                refine wpAnyH_take (i := 14) (v := undef) rfl (by kernel_rfl) (by kernel_rfl) (by kernel_rfl) (fun _ _ _ h => h) (Or.inr ⟨by rfl, rfl⟩) hH ?rest15
                try simp only [Act.put, List.setIfInBounds_toArray, List.set_cons_zero, List.set_cons_succ, List.getElem_toArray, List.getElem_cons_zero, List.getElem_cons_succ]
                refine wpAnyH_take (i := 15) (v := undef) rfl (by kernel_rfl) (by kernel_rfl) (by kernel_rfl) (fun _ _ _ h => h) (Or.inr ⟨by rfl, rfl⟩) hH ?rest16
                try simp only [Act.put, List.setIfInBounds_toArray, List.set_cons_zero, List.set_cons_succ, List.getElem_toArray, List.getElem_cons_zero, List.getElem_cons_succ]
                refine wpAnyH_take (i := 16) (v := ?v17) rfl (by kernel_rfl) (by kernel_rfl) (by kernel_rfl) (fun _ _ _ h => h) (Or.inl ⟨by rfl, ?hy17⟩) hH ?rest17
                case hy17 => (intro w hSw; (try dsimp only at hSw); go_simp; try with_reducible rfl)
                try simp only [Act.put, List.setIfInBounds_toArray, List.set_cons_zero, List.set_cons_succ, List.getElem_toArray, List.getElem_cons_zero, List.getElem_cons_succ]
                refine wpAnyH_done (by kernel_rfl) ?_ _
                have HB8 := Lib.hid (hB.out.trans (hH.mono hB.out.size))
                clear HW SB BD hB hH
                go_wp2
                go_roundg (l.length - (j + 1))
                case measure => omega
                case rel => exact ⟨j + 1, by omega, by go_num, HB8.out⟩
              · by_cases hkj : k = j
                · subst hkj
                  go_wp2_with fail
                  refine wp_region_held_drew (S := fun v => Below wr.heap.size wr v) (by kernel_rfl) BD.out (fun hH => ?_)
                  refine wpAnyH_take (i := 0) (v := ?v18) rfl (by kernel_rfl) (by kernel_rfl) (by kernel_rfl) (fun _ _ _ h => h) (Or.inl ⟨by rfl, ?hy18⟩) hH ?rest18
                  case hy18 => (intro w hSw; (try dsimp only at hSw); go_simp; try with_reducible rfl)
                  try simp only [Act.put, List.setIfInBounds_toArray, List.set_cons_zero, List.set_cons_succ, List.getElem_toArray, List.getElem_cons_zero]
                  refine wpAnyH_take (i := 1) (v := ?v19) rfl (by kernel_rfl) (by kernel_rfl) (by kernel_rfl) (fun _ _ _ h => h) (Or.inl ⟨by rfl, ?hy19⟩) hH ?rest19
                  case hy19 => (intro w hSw; (try dsimp only at hSw); go_simp; try with_reducible rfl)
                  try simp only [Act.put, List.setIfInBounds_toArray, List.set_cons_zero, List.set_cons_succ, List.getElem_toArray, List.getElem_cons_zero, List.getElem_cons_succ]
                  refine wpAnyH_take (i := 5) (v := ?v20) rfl (by kernel_rfl) (by kernel_rfl) (by kernel_rfl) (fun _ _ _ h => h) (Or.inl ⟨by rfl, ?hy20⟩) hH ?rest20
                  case hy20 => (intro w hSw; (try dsimp only at hSw); go_simp; try with_reducible rfl)
                  try simp only [Act.put, List.setIfInBounds_toArray, List.set_cons_zero, List.set_cons_succ, List.getElem_toArray, List.getElem_cons_zero, List.getElem_cons_succ]
                  refine wpAnyH_take (i := 6) (v := ?v21) rfl (by kernel_rfl) (by kernel_rfl) (by kernel_rfl) (fun _ _ _ h => h) (Or.inl ⟨by rfl, ?hy21⟩) hH ?rest21
                  case hy21 => (intro w hSw; (try dsimp only at hSw); go_simp; try with_reducible rfl)
                  try simp only [Act.put, List.setIfInBounds_toArray, List.set_cons_zero, List.set_cons_succ, List.getElem_toArray, List.getElem_cons_zero, List.getElem_cons_succ]
                  refine wpAnyH_take (i := 2) (v := ?v22) rfl (by kernel_rfl) (by kernel_rfl) (by kernel_rfl) (fun _ _ _ h => h) (Or.inl ⟨by rfl, ?hy22⟩) hH ?rest22
                  case hy22 => (intro w hSw; (try dsimp only at hSw); go_simp; try with_reducible rfl)
                  try simp only [Act.put, List.setIfInBounds_toArray, List.set_cons_zero, List.set_cons_succ, List.getElem_toArray, List.getElem_cons_zero, List.getElem_cons_succ]
                  refine wpAnyH_take (i := 7) (v := ?v23) rfl (by kernel_rfl) (by kernel_rfl) (by kernel_rfl) (fun _ _ _ h => h) (Or.inl ⟨by rfl, ?hy23⟩) hH ?rest23
                  case hy23 => (intro w hSw; (try dsimp only at hSw); go_simp; try with_reducible rfl)
                  try simp only [Act.put, List.setIfInBounds_toArray, List.set_cons_zero, List.set_cons_succ, List.getElem_toArray, List.getElem_cons_zero, List.getElem_cons_succ]
                  refine wpAnyH_take (i := 3) (v := ?v24) rfl (by kernel_rfl) (by kernel_rfl) (by kernel_rfl) (fun _ _ _ h => h) (Or.inl ⟨by rfl, ?hy24⟩) hH ?rest24
                  case hy24 => (intro w hSw; (try dsimp only at hSw); go_simp; try with_reducible rfl)
                  try simp only [Act.put, List.setIfInBounds_toArray, List.set_cons_zero, List.set_cons_succ, List.getElem_toArray, List.getElem_cons_zero, List.getElem_cons_succ]
                  refine wpAnyH_take (i := 8) (v := ?v25) rfl (by kernel_rfl) (by kernel_rfl) (by kernel_rfl) (fun _ _ _ h => h) (Or.inl ⟨by rfl, ?hy25⟩) hH ?rest25
                  case hy25 => (intro w hSw; (try dsimp only at hSw); go_simp; try with_reducible rfl)
                  try simp only [Act.put, List.setIfInBounds_toArray, List.set_cons_zero, List.set_cons_succ, List.getElem_toArray, List.getElem_cons_zero, List.getElem_cons_succ]
                  refine wpAnyH_take (i := 4) (v := ?v26) rfl (by kernel_rfl) (by kernel_rfl) (by kernel_rfl) (fun _ _ _ h => h) (Or.inl ⟨by rfl, ?hy26⟩) hH ?rest26
                  case hy26 => (intro w hSw; (try dsimp only at hSw); obtain ⟨f0, f1, f2, f3⟩ := SB.out w hSw; go_simp; try with_reducible rfl)
                  try simp only [Act.put, List.setIfInBounds_toArray, List.set_cons_zero, List.set_cons_succ, List.getElem_toArray, List.getElem_cons_zero, List.getElem_cons_succ]
                  refine wpAnyH_take (i := 9) (v := ?v27) rfl (by kernel_rfl) (by kernel_rfl) (by kernel_rfl) (fun _ _ _ h => h) (Or.inl ⟨by rfl, ?hy27⟩) hH ?rest27
                  case hy27 => (intro w hSw; (try dsimp only at hSw); obtain ⟨f0, f1, f2, f3⟩ := SB.out w hSw; go_simp; try with_reducible rfl)
                  try simp only [Act.put, List.setIfInBounds_toArray, List.set_cons_zero, List.set_cons_succ, List.getElem_toArray, List.getElem_cons_zero, List.getElem_cons_succ]
                  refine wpAnyH_ready (rs := [10]) (by kernel_rfl) (by simp) ?_
                  refine AllReadyH.cons rfl (fun K hK => ?_) AllReadyH.nil
                  go_simp
                  go_at_call 20
                  with_reducible refine (HW _ hH).out.mono ?_
                  rintro e wq28 ⟨rfl, bq28⟩
                  go_wp2_with fail
                  refine hK.out _ _ (hH.trans (bq28.mono hH.size)) (fun hH2 => ?_)
                  clear hK K hH
                  have hH := hH2
                  clear hH2
                  try simp only [Act.put, List.setIfInBounds_toArray, List.set_cons_zero, List.set_cons_succ, List.getElem_toArray, List.getElem_cons_zero, List.getElem_cons_succ]
                  refine wpAnyH_take (i := 11) (v := ?v29) rfl (by kernel_rfl) (by kernel_rfl) (by kernel_rfl) (fun _ _ _ h => h) (Or.inl ⟨by rfl, ?hy29⟩) hH ?rest29
                  case hy29 => (intro w hSw; (try dsimp only at hSw); go_simp; try with_reducible rfl)
                  try simp only [Act.put, List.setIfInBounds_toArray, List.set_cons_zero, List.set_cons_succ, List.getElem_toArray, List.getElem_cons_zero, List.getElem_cons_succ]
                  refine wpAnyH_take (i := 12) (v := ?v30) rfl (by kernel_rfl) (by kernel_rfl) (by kernel_rfl) (fun _ _ _ h => h) (Or.inl ⟨by rfl, ?hy30⟩) hH ?rest30
                  case hy30 => (intro w hSw; (try dsimp only at hSw); go_simp; try with_reducible rfl)
                  try simp only [Act.put, List.setIfInBounds_toArray, List.set_cons_zero, List.set_cons_succ, List.getElem_toArray, List.getElem_cons_zero, List.getElem_cons_succ]
                  refine wpAnyH_take (i := 13) (v := ?v31) rfl (by kernel_rfl) (by kernel_rfl) (by kernel_rfl) (fun _ _ _ h => h) (Or.inl ⟨by rfl, ?hy31⟩) hH ?rest31
                  case hy31 => (intro w hSw; (try dsimp only at hSw); go_simp; try with_reducible rfl)
                  try simp only [Act.put, List.setIfInBounds_toArray, List.set_cons_zero, List.set_cons_succ, List.getElem_toArray, List.getElem_cons_zero, List.getElem_cons_succ]
                  refine wpAnyH_take (i := 14) (v := ?v32) rfl (by kernel_rfl) (by kernel_rfl) (by kernel_rfl) (fun _ _ _ h => h) (Or.inl ⟨by rfl, ?hy32⟩) hH ?rest32
                  case hy32 => (intro w hSw; (try dsimp only at hSw); go_simp; try with_reducible rfl)
                  try simp only [Act.put, List.setIfInBounds_toArray, List.set_cons_zero, List.set_cons_succ, List.getElem_toArray, List.getElem_cons_zero, List.getElem_cons_succ]
                  refine wpAnyH_take (i := 15) (v := ?v33) rfl (by kernel_rfl) (by kernel_rfl) (by kernel_rfl) (fun _ _ _ h => h) (Or.inl ⟨by rfl, ?hy33⟩) hH ?rest33
                  case hy33 => (intro w hSw; (try dsimp only at hSw); go_simp; try with_reducible rfl)
                  try simp only [Act.put, List.setIfInBounds_toArray, List.set_cons_zero, List.set_cons_succ, List.getElem_toArray, List.getElem_cons_zero, List.getElem_cons_succ]
                  refine wpAnyH_take (i := 16) (v := ?v34) rfl (by kernel_rfl) (by kernel_rfl) (by kernel_rfl) (fun _ _ _ h => h) (Or.inl ⟨by rfl, ?hy34⟩) hH ?rest34
                  case hy34 => (intro w hSw; (try dsimp only at hSw); go_simp; try with_reducible rfl)
                  try simp only [Act.put, List.setIfInBounds_toArray, List.set_cons_zero, List.set_cons_succ, List.getElem_toArray, List.getElem_cons_zero, List.getElem_cons_succ]
                  refine wpAnyH_done (by kernel_rfl) ?_ _
                  have HB8 := Lib.hid (hB.out.trans (hH.mono hB.out.size))
                  clear HW SB BD hB hH
                  go_wp2
                  go_roundg (l.length - (k + 1))
                  case measure => omega
                  case rel => exact ⟨k + 1, by omega, by go_num, HB8.out⟩
                · have n1 : ((k : Int) == (j : Int)) = false := by simp; omega
                  have n2 : (k == j) = false := by simp; omega
                  have n3 : decide (k = j) = false := decide_eq_false hkj
                  have HFw2 := Lib.hid (HFw.out hkj rfl)
                  clear HFw
                  go_wp2_with fail
                  refine wp_region_held_drew (S := fun v => Below wr.heap.size wr v) (by kernel_rfl) BD.out (fun hH => ?_)
                  refine wpAnyH_take (i := 0) (v := ?v35) rfl (by kernel_rfl) (by kernel_rfl) (by kernel_rfl) (fun _ _ _ h => h) (Or.inl ⟨by rfl, ?hy35⟩) hH ?rest35
                  case hy35 => (intro w hSw; (try dsimp only at hSw); go_simp; try with_reducible rfl)
                  try simp only [Act.put, List.setIfInBounds_toArray, List.set_cons_zero, List.set_cons_succ, List.getElem_toArray, List.getElem_cons_zero]
                  refine wpAnyH_take (i := 1) (v := ?v36) rfl (by kernel_rfl) (by kernel_rfl) (by kernel_rfl) (fun _ _ _ h => h) (Or.inl ⟨by rfl, ?hy36⟩) hH ?rest36
                  case hy36 => (intro w hSw; (try dsimp only at hSw); go_simp; try with_reducible rfl)
                  try simp only [Act.put, List.setIfInBounds_toArray, List.set_cons_zero, List.set_cons_succ, List.getElem_toArray, List.getElem_cons_zero, List.getElem_cons_succ]
                  refine wpAnyH_take (i := 5) (v := ?v37) rfl (by kernel_rfl) (by kernel_rfl) (by kernel_rfl) (fun _ _ _ h => h) (Or.inl ⟨by rfl, ?hy37⟩) hH ?rest37
                  case hy37 => (intro w hSw; (try dsimp only at hSw); go_simp; try with_reducible rfl)
                  try simp only [Act.put, List.setIfInBounds_toArray, List.set_cons_zero, List.set_cons_succ, List.getElem_toArray, List.getElem_cons_zero, List.getElem_cons_succ]
                  refine wpAnyH_take (i := 6) (v := ?v38) rfl (by kernel_rfl) (by kernel_rfl) (by kernel_rfl) (fun _ _ _ h => h) (Or.inl ⟨by rfl, ?hy38⟩) hH ?rest38
                  case hy38 => (intro w hSw; (try dsimp only at hSw); go_simp; try with_reducible rfl)
                  try simp only [Act.put, List.setIfInBounds_toArray, List.set_cons_zero, List.set_cons_succ, List.getElem_toArray, List.getElem_cons_zero, List.getElem_cons_succ]
                  refine wpAnyH_take (i := 2) (v := ?v39) rfl (by kernel_rfl) (by kernel_rfl) (by kernel_rfl) (fun _ _ _ h => h) (Or.inl ⟨by rfl, ?hy39⟩) hH ?rest39
                  case hy39 => (intro w hSw; (try dsimp only at hSw); go_simp; try with_reducible rfl)
                  try simp only [Act.put, List.setIfInBounds_toArray, List.set_cons_zero, List.set_cons_succ, List.getElem_toArray, List.getElem_cons_zero, List.getElem_cons_succ]
                  refine wpAnyH_take (i := 7) (v := ?v40) rfl (by kernel_rfl) (by kernel_rfl) (by kernel_rfl) (fun _ _ _ h => h) (Or.inl ⟨by rfl, ?hy40⟩) hH ?rest40
                  case hy40 => (intro w hSw; (try dsimp only at hSw); go_simp; try with_reducible rfl)
                  try simp only [Act.put, List.setIfInBounds_toArray, List.set_cons_zero, List.set_cons_succ, List.getElem_toArray, List.getElem_cons_zero, List.getElem_cons_succ]
                  refine wpAnyH_take (i := 3) (v := ?v41) rfl (by kernel_rfl) (by kernel_rfl) (by kernel_rfl) (fun _ _ _ h => h) (Or.inl ⟨by rfl, ?hy41⟩) hH ?rest41
                  case hy41 => (intro w hSw; (try dsimp only at hSw); go_simp; try with_reducible rfl)
                  try simp only [Act.put, List.setIfInBounds_toArray, List.set_cons_zero, List.set_cons_succ, List.getElem_toArray, List.getElem_cons_zero, List.getElem_cons_succ]
                  refine wpAnyH_take (i := 8) (v := ?v42) rfl (by kernel_rfl) (by kernel_rfl) (by kernel_rfl) (fun _ _ _ h => h) (Or.inl ⟨by rfl, ?hy42⟩) hH ?rest42
                  case hy42 => (intro w hSw; (try dsimp only at hSw); go_simp; try with_reducible rfl)
                  try simp only [Act.put, List.setIfInBounds_toArray, List.set_cons_zero, List.set_cons_succ, List.getElem_toArray, List.getElem_cons_zero, List.getElem_cons_succ]
                  refine wpAnyH_take (i := 4) (v := ?v43) rfl (by kernel_rfl) (by kernel_rfl) (by kernel_rfl) (fun _ _ _ h => h) (Or.inl ⟨by rfl, ?hy43⟩) hH ?rest43
                  case hy43 => (intro w hSw; (try dsimp only at hSw); obtain ⟨f0, f1, f2, f3⟩ := SB.out w hSw; go_simp; try with_reducible rfl)
                  try simp only [Act.put, List.setIfInBounds_toArray, List.set_cons_zero, List.set_cons_succ, List.getElem_toArray, List.getElem_cons_zero, List.getElem_cons_succ]
                  refine wpAnyH_take (i := 9) (v := ?v44) rfl (by kernel_rfl) (by kernel_rfl) (by kernel_rfl) (fun _ _ _ h => h) (Or.inl ⟨by rfl, ?hy44⟩) hH ?rest44
                  case hy44 => (intro w hSw; (try dsimp only at hSw); obtain ⟨f0, f1, f2, f3⟩ := SB.out w hSw; go_simp; try with_reducible rfl)
                  try simp only [Act.put, List.setIfInBounds_toArray, List.set_cons_zero, List.set_cons_succ, List.getElem_toArray, List.getElem_cons_zero, List.getElem_cons_succ]
                  refine wpAnyH_ready (rs := [10]) (by kernel_rfl) (by simp) ?_
                  refine AllReadyH.cons rfl (fun K hK => ?_) AllReadyH.nil
                  go_simp
                  go_at_call 20
                  with_reducible refine (HW _ hH).out.mono ?_
                  rintro e wq45 ⟨rfl, bq45⟩
                  go_wp2_with fail
                  refine hK.out _ _ (hH.trans (bq45.mono hH.size)) (fun hH2 => ?_)
                  clear hK K hH
                  have hH := hH2
                  clear hH2
                  try simp only [Act.put, List.setIfInBounds_toArray, List.set_cons_zero, List.set_cons_succ, List.getElem_toArray, List.getElem_cons_zero, List.getElem_cons_succ]
                  refine wpAnyH_take (i := 11) (v := ?v46) rfl (by kernel_rfl) (by kernel_rfl) (by kernel_rfl) (fun _ _ _ h => h) (Or.inl ⟨by rfl, ?hy46⟩) hH ?rest46
                  case hy46 => (intro w hSw; (try dsimp only at hSw); go_simp; try with_reducible rfl)
                  try simp only [Act.put, List.setIfInBounds_toArray, List.set_cons_zero, List.set_cons_succ, List.getElem_toArray, List.getElem_cons_zero, List.getElem_cons_succ]
                  refine wpAnyH_take (i := 12) (v := ?v47) rfl (by kernel_rfl) (by kernel_rfl) (by kernel_rfl) (fun _ _ _ h => h) (Or.inl ⟨by rfl, ?hy47⟩) hH ?rest47
                  case hy47 => (intro w hSw; (try dsimp only at hSw); go_simp; try with_reducible rfl)
                  try simp only [Act.put, List.setIfInBounds_toArray, List.set_cons_zero, List.set_cons_succ, List.getElem_toArray, List.getElem_cons_zero, List.getElem_cons_succ]
                  refine wpAnyH_take (i := 13) (v := ?v48) rfl (by kernel_rfl) (by kernel_rfl) (by kernel_rfl) (fun _ _ _ h => h) (Or.inl ⟨by rfl, ?hy48⟩) hH ?rest48
                  case hy48 => (intro w hSw; (try dsimp only at hSw); go_simp; try with_reducible rfl)
                  try simp only [Act.put, List.setIfInBounds_toArray, List.set_cons_zero, List.set_cons_succ, List.getElem_toArray, List.getElem_cons_zero, List.getElem_cons_succ]
                  refine wpAnyH_take (i := 14) (v := ?v49) rfl (by kernel_rfl) (by kernel_rfl) (by kernel_rfl) (fun _ _ _ h => h) (Or.inl ⟨by rfl, ?hy49⟩) hH ?rest49
                  case hy49 => (intro w hSw; (try dsimp only at hSw); go_simp; try with_reducible rfl)
                  try simp only [Act.put, List.setIfInBounds_toArray, List.set_cons_zero, List.set_cons_succ, List.getElem_toArray, List.getElem_cons_zero, List.getElem_cons_succ]
                  refine wpAnyH_take (i := 15) (v := ?v50) rfl (by kernel_rfl) (by kernel_rfl) (by kernel_rfl) (fun _ _ _ h => h) (Or.inl ⟨by rfl, ?hy50⟩) hH ?rest50
                  case hy50 => (intro w hSw; (try dsimp only at hSw); go_simp; try with_reducible rfl)
                  try simp only [Act.put, List.setIfInBounds_toArray, List.set_cons_zero, List.set_cons_succ, List.getElem_toArray, List.getElem_cons_zero, List.getElem_cons_succ]
                  refine wpAnyH_take (i := 16) (v := ?v51) rfl (by kernel_rfl) (by kernel_rfl) (by kernel_rfl) (fun _ _ _ h => h) (Or.inl ⟨by rfl, ?hy51⟩) hH ?rest51
                  case hy51 => (intro w hSw; (try dsimp only at hSw); go_simp; try with_reducible rfl)
                  try simp only [Act.put, List.setIfInBounds_toArray, List.set_cons_zero, List.set_cons_succ, List.getElem_toArray, List.getElem_cons_zero, List.getElem_cons_succ]
                  refine wpAnyH_done (by kernel_rfl) ?_ _
                  have HB5 := Lib.hid (hB.out.trans (hH.mono hB.out.size))
                  clear HW SB BD hB hH n1 n2 n3
                  generalize wq45 = w5 at *
                  have HQ := HPax w5 HB5.out
                  obtain ⟨g0, g1, g2, g3, g4, g5⟩ := HCc.out w5 HB5.out
                  clear HPax
                  go_wp2_with fail
                  refine HQ.out.mono ?_
                  rintro e w10 ⟨z1, rfl, hz1, bz1⟩
                  have HB10 := Lib.hid (HB5.out.trans (bz1.mono HB5.out.size))
                  clear HQ g0 g1 g2 g3 g4 g5 HB5 bz1
                  have HQ := HPay w10 HB10.out
                  obtain ⟨g0, g1, g2, g3, g4, g5⟩ := HCc.out w10 HB10.out
                  clear HPay
                  go_wp2_with fail
                  refine HQ.out.mono ?_
                  rintro e w11 ⟨z2, rfl, hz2, bz2⟩
                  have HB11 := Lib.hid (HB10.out.trans (bz2.mono HB10.out.size))
                  clear HQ g0 g1 g2 g3 g4 g5 HB10 bz2
                  have HQ := HPbx w11 HB11.out
                  obtain ⟨g0, g1, g2, g3, g4, g5⟩ := HCc.out w11 HB11.out
                  clear HPbx
                  go_wp2_with fail
                  refine HQ.out.mono ?_
                  rintro e w12 ⟨z3, rfl, hz3, bz3⟩
                  have HB12 := Lib.hid (HB11.out.trans (bz3.mono HB11.out.size))
                  clear HQ g0 g1 g2 g3 g4 g5 HB11 bz3
                  have HQ := HPby w12 HB12.out
                  obtain ⟨g0, g1, g2, g3, g4, g5⟩ := HCc.out w12 HB12.out
                  clear HPby
                  go_wp2_with fail
                  refine HQ.out.mono ?_
                  rintro e w13 ⟨z4, rfl, hz4, bz4⟩
                  have HB13 := Lib.hid (HB12.out.trans (bz4.mono HB12.out.size))
                  clear HQ g0 g1 g2 g3 g4 g5 HB12 bz4
                  have hF := HFw2.out z1 z2 z3 z4 hz1 hz2 hz3 hz4
                  clear hz1 hz2 hz3 hz4 HFw2 HCc
                  rcases hF with ⟨rfl, rfl, ⟨rfl, rfl⟩ | ⟨q, q', rfl, rfl⟩⟩ | ⟨p, p', rfl, rfl, rfl, rfl⟩ | ⟨p, p', q, q', rfl, rfl, rfl, rfl, hiff⟩
                  · go_wp2
                    go_roundg (l.length - (j + 1))
                    case measure => omega
                    case rel => exact ⟨j + 1, by omega, by go_num, HB13.out⟩
                  · have a1 : decide ((q : Int) < 0) = false := decide_eq_false (by omega)
                    have a2 : decide ((q' : Int) < 0) = false := decide_eq_false (by omega)
                    have a3 : decide ((0 : Int) ≤ (q : Int)) = true := decide_eq_true (by omega)
                    go_wp2
                    go_roundg (l.length - (j + 1))
                    case measure => omega
                    case rel => exact ⟨j + 1, by omega, by go_num, HB13.out⟩
                  · have a1 : decide ((p : Int) < 0) = false := decide_eq_false (by omega)
                    have a2 : decide ((p' : Int) < 0) = false := decide_eq_false (by omega)
                    have a3 : decide ((0 : Int) ≤ (p : Int)) = true := decide_eq_true (by omega)
                    go_wp2
                    go_roundg (l.length - (j + 1))
                    case measure => omega
                    case rel => exact ⟨j + 1, by omega, by go_num, HB13.out⟩
                  · have a1 : decide ((p : Int) < 0) = false := decide_eq_false (by omega)
                    have a2 : decide ((p' : Int) < 0) = false := decide_eq_false (by omega)
                    have a3 : decide ((0 : Int) ≤ (p : Int)) = true := decide_eq_true (by omega)
                    have a4 : decide ((q : Int) < 0) = false := decide_eq_false (by omega)
                    have a5 : decide ((q' : Int) < 0) = false := decide_eq_false (by omega)
                    have a6 : decide ((0 : Int) ≤ (q : Int)) = true := decide_eq_true (by omega)
                    have a7 : decide ((p : Int) < (q : Int)) = decide ((p' : Int) < (q' : Int)) := decide_eq_decide.2 (by omega)
                    have a8 : decide (p < q) = decide (p' < q') := decide_eq_decide.2 (by omega)
                    clear hiff
                    go_wp2
                    go_roundg (l.length - (j + 1))
                    case measure => omega
                    case rel => exact ⟨j + 1, by omega, by go_num, HB13.out⟩
            · obtain rfl : j = l.length := by omega
              go_wp2
              go_roundg (l.length - (k + 1))
              case measure => omega
              case rel => exact ⟨k + 1, by omega, by go_num, hB.out⟩
        · obtain rfl : k = l.length := by omega
          have HBX := Lib.hid (HB9.out.trans (hB.out.mono HB9.out.size))
          go_wp2
          go_ret
          exact ⟨rfl, HBX.out⟩
set_option maxRecDepth 100000 in
theorem lagrees_any (A : Option Addr) (c : Nat) (l : List No) (hc : l.length ≤ c) (Ab : Option Addr) (cb : Nat) (f : List Bool) (hf : Wf l) (w : World) (hs : Nl w w.heap.size A l) (hd : Dl w w.heap.size l) (hb : Bo w w.heap.size Ab f) :
    Calls Tryz.prog 5 #[.slice A l.length c, .slice Ab f.length cb] w (UpPost w) := by
  by_cases hfw : fw l = true
  · have h1 := fw_iff.1 hfw
    exact lagrees_core A c l h1.1 h1.2 hc Ab cb f hf w hs hd hb
  · have hfw' : fw l = false := by simpa using hfw
    have HAw := Lib.hid (awake_any w)
    have HFw := fun W h => Lib.hid (Few_any A c l W h)
    rw [hfw'] at HFw
    clear hfw hfw' hf hd hb
    go_enter Tryz.func5, Tryz.ntmps5
    go_wp2_with fail
    refine HAw.out.mono ?_
    rintro e w1 ⟨rfl, B1⟩
    have HFw1 := HFw w1 (hs.to B1 B1.size)
    go_wp2_with fail
    refine HFw1.out.mono ?_
    rintro e w2 ⟨rfl, rfl⟩
    go_wp2
    go_ret
    exact ⟨rfl, B1⟩
end Go.Proofs.YtgpciipemgljcaaGreat.Od

namespace Go.Proofs.YtgpciipemgljcaaGreat.orderAgrees
open Go.ChangeShapes Go.WideShapes Go.ChangeAt Go.RowKit Go.Joins Od
set_option linter.unusedVariables false
set_option maxRecDepth 100000

theorem walk (A : Option Addr) (c : Nat) (l : List No) (Ab : Option Addr) (cb : Nat) (f : List Bool) (w : World) (hs : l.length ≤ c ∧ Wf l ∧ Nl w w.heap.size A l ∧ Dl w w.heap.size l) (hb : Bo w w.heap.size Ab f) : Calls Tryz.prog 5 #[.slice A l.length c, .slice Ab f.length cb] w (UpPost w) :=
  lagrees_any A c l hs.1 Ab cb f hs.2.1 w hs.2.2.1 hs.2.2.2 hb

theorem own : ownKnob Tryz.prog.godebug = none := by kernel_rfl
theorem laidOut : laidOutB Tryz.prog = true := by kernel_rfl

set_option maxRecDepth 100000 in
theorem lifted (os : Os) (started : os.Started) (H : Type) (enc : TypeId × Value → H) :
    ReturnsInHanded {} Tryz.checked os 5 .any (Rows.orderAgreesSpec.pre6 enc Tryz.prog Tryz.f5 Rows.orderAgreesRow.domain false) (Rows.orderAgreesSpec.post enc Tryz.prog Tryz.f5 false true false false) := by
  refine returnsInHanded_of_change (C := Tryz.checked) own started (by kernel_rfl) Tryz.func5
    (ChangeSpec.witness6 (enc := enc) (C := Tryz.checked) false ⟨#[], #[.slice none 0 0, .slice none 0 0], []⟩ 8 (by kernel_rfl) (by kernel_rfl) (by kernel_rfl) (by kernel_rfl)) ?_
  intro W base args ds gs before hval0 hW hcnd _
  have hval : ∀ (j : Nat) t v, Tryz.f5.params[j]? = some t → args[j]? = some v → Value.okWide Tryz.prog W .any base t v := hval0
  have hW' := hW
  obtain ⟨p, q, hA, hV, rfl, hfz, hnd⟩ := hW
  have hA : DataW.TrodAll enc Tryz.prog W 0 (fun _ => true) true Tryz.f5.params.toList args.toList ds p := hA
  rw [Tryz.params5] at hA hval
  obtain ⟨v0, vs0, d0, ds0, p0, q0, hargs, rfl, rfl, h0, r0⟩ := trodAll_cons hA
  obtain ⟨v1, vs1, d1, ds1, p1, q1, rfl, rfl, rfl, h1, r1⟩ := trodAll_cons r0
  obtain ⟨rfl, rfl, rfl⟩ := trodAll_nil r1
  obtain rfl : args = #[v0, v1] := by cases args; simp_all
  obtain ⟨rfl, rfl⟩ := trodVars_none hV
  have k0 := h0
  have lt0 : ∀ x ∈ p0, x.block < W.heap.size := by obtain ⟨m, hm⟩ := k0; exact DataW.trod_lt m _ _ _ hm
  obtain ⟨A0, c0, l0, rfl, s0⟩ := open_nodes (hval 0 22 v0 rfl rfl) h0
  have k1 := h1
  have lt1 : ∀ x ∈ p1, x.block < W.heap.size := by obtain ⟨m, hm⟩ := k1; exact DataW.trod_lt m _ _ _ hm
  obtain ⟨A1, c1, l1, rfl, s1⟩ := open_bo (hval 1 41 v1 rfl rfl) h1
  clear hval0
  refine (walk A0 c0 l0 A1 c1 l1 W s0 s1).mono fun e W' ⟨he, bel⟩ => ?_
  subst he
  exact ⟨_, rfl, _, _, _, [], _, [], hW', trodAll_mk1 (shut_bool Tryz.underlying4 _), (trodAll_cons_mk (Below.trod laidOut (by kernel_rfl) (of_decide_eq_true (by kernel_rfl)) k0 bel lt0) (trodAll_cons_mk (Below.trod laidOut (by kernel_rfl) (of_decide_eq_true (by kernel_rfl)) k1 bel lt1) trodAll_mk0)), rfl, bel.frame _, fun h => by cases h⟩

theorem over : Rows.orderAgreesRow.holds Tryz.pinned (OpenSpec.ofChange Rows.orderAgreesSpec) :=
  OpenClaim.holds_of_wide 5 Tryz.f5 rfl rfl rfl rfl rfl rfl rfl ⟨rfl, rfl, rfl, rfl, rfl⟩ rfl rfl rfl rfl rfl (by kernel_rfl) Tryz.func5 (by kernel_rfl)
    (of_decide_eq_true (by kernel_rfl)) (by unfold Func.isWrapper; first | (rw [if_pos (by decide +kernel)]; kernel_rfl) | (rw [if_neg (by decide +kernel)]; exact ⟨rfl, rfl⟩))
    (fun os started H enc _ => lifted os started H enc)

theorem proved : Rows.OrderAgreesSaid := over
#print axioms proved
end Go.Proofs.YtgpciipemgljcaaGreat.orderAgrees
