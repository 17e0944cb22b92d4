/-
  OrderRuns, for every input: what of any nodes may be done, in which order, and what is missing, is what the document says: the law answers true, and its arguments read as they did. No conditions.
-/
import Derived.Test.YtgpciipemgljcaaGreatGam
import Derived.Test.YtgpciipemgljcaaGreatGah
import Derived.Test.YtgpciipemgljcaaGreatGae
import Derived.Test.YtgpciipemgljcaaGreatGal
import Derived.Deep.Onto
import Derived.Test.YtgpciipemgljcaaGreatGag
import Derived.IntWalk
import Derived.Test.YtgpciipemgljcaaGreatGak
import Derived.Test.YtgpciipemgljcaaGreatGad
import Derived.Test.YtgpciipemgljcaaGreatGaj
import Derived.Deep.AppendLies
import Derived.Maps.OwnIn
/-
  The walk of the law OrderWaits. No conditions but what can be read.
-/
namespace Go.Proofs.YtgpciipemgljcaaGreat.Od
open Go.RowKit
set_option linter.unusedVariables false
attribute [local go_sem ↓ high] eq25 guard25 neq25 guard25n

theorem elem_size23 (W : World) : (sizeOf (Tryz.prog.elem 23)).run Tryz.prog W = .ok 2 W := by
  obtain ⟨i0, hi, hz0, hz1, hz2⟩ := info_parts info25
  have e : Tryz.prog.elem 23 = 25 := by kernel_rfl
  rw [e]
  simp [sizeOf, typeInfo, hi, hz1]
theorem Il.drop {w : World} {B b off : Nat} {l : List Is} (h : Il w B (some ⟨b, off, none⟩) l) (n : Nat) : Il w B (some ⟨b, off + n * 2, none⟩) (l.drop n) := by
  rcases h with rfl | ⟨b', off', hA, hb, hc⟩
  · exact .inl (by simp)
  · simp only [Option.some.injEq, Addr.mk.injEq, and_true] at hA
    obtain ⟨rfl, rfl⟩ := hA
    refine .inr ⟨b, _, rfl, hb, fun j x hx => ?_⟩
    rw [List.getElem?_drop] at hx
    have := hc _ _ hx
    rw [show off + n * 2 + j * 2 = off + (n + j) * 2 by omega]
    exact this
/-- 's[k:]' of instances. -/
theorem tail_runI {w : World} {B : Nat} {A : Option Addr} {l : List Is} (h : Il w B A l) (c k : Nat) (hk : k ≤ l.length) (hc : l.length ≤ c) :
    ∃ A', (∀ W, (Instr.sliceAt 23 (.slice A l.length c) (some (.int .i64 (k : Int))) none none).run Tryz.prog W = .ok (.slice A' (l.drop k).length (c - k)) W) ∧
      (∀ W, (Instr.slice 23 (.slice A l.length c) (some (.int .i64 (k : Int))) none none).run Tryz.prog W = .ok (.slice A' (l.drop k).length (c - k)) W) ∧ Il w B A' (l.drop k) := by
  have eu : Tryz.prog.underlying 23 = some (.slice (Tryz.prog.elem 23)) := by kernel_rfl
  have h2 : ∀ W, (Instr.slice 23 (.slice A l.length c) (some (.int .i64 (k : Int))) none none).run Tryz.prog W = .ok (.slice (if c = k then A else A.map (·.add (k * 2))) (l.drop k).length (c - k)) W := fun W => by
    rw [run_slice_l W 23 A l.length c eu .i64 k (by omega) (by omega), elem_size23]
    simp [sliced]
  refine ⟨if c = k then A else A.map (·.add (k * 2)), fun W => by rw [run_sliceAt_slice W 23 _ _ _ _ eu]; exact h2 W, h2, ?_⟩
  by_cases e : c = k
  · have : l.drop k = [] := List.drop_eq_nil_of_le (by omega)
    rw [this]; exact .nil
  · rw [if_neg e]
    rcases A with _ | ⟨b, off, sp⟩
    · rcases h with rfl | ⟨_, _, h0, _⟩
      · simp; exact .nil
      · cases h0
    · rcases h with rfl | ⟨b', off', hA, hb, hcc⟩
      · simp; exact .nil
      · simp only [Option.some.injEq, Addr.mk.injEq] at hA
        obtain ⟨rfl, rfl, rfl⟩ := hA
        have : Il w B (some ⟨b, off, none⟩) l := .inr ⟨b, off, rfl, hb, hcc⟩
        simp only [Option.map_some, Addr.add_lit]
        exact this.drop k
theorem place_in (A : Option Addr) (c : Nat) (l : List Is) (i : Is) (hi : i ∈ l) (hl : l.length ≤ 1000) (w : World) (hs : Il w w.heap.size A l) :
    Calls Tryz.prog 18 #[.slice A l.length c, iv i] w (fun e w' => ∃ z : Nat, e = .returned (.int .i64 (z : Int)) ∧ Below w.heap.size w w') := (place_any A c l i hl w hs).mono (by
  rintro e w' ⟨z, rfl, hz, hb⟩
  rcases hz with ⟨_, h⟩ | ⟨k, rfl, _, _⟩
  · exact absurd hi h
  · exact ⟨k, rfl, hb⟩)
theorem place_out (A : Option Addr) (c : Nat) (l : List Is) (i : Is) (hi : i ∉ l) (hl : l.length ≤ 1000) (w : World) (hs : Il w w.heap.size A l) :
    Calls Tryz.prog 18 #[.slice A l.length c, iv i] w (fun e w' => e = .returned (.int .i64 (-1)) ∧ Below w.heap.size w w') := (place_any A c l i hl w hs).mono (by
  rintro e w' ⟨z, rfl, hz, hb⟩
  rcases hz with ⟨rfl, _⟩ | ⟨k, rfl, h, _⟩
  · exact ⟨rfl, hb⟩
  · exact absurd (List.mem_of_getElem? h) hi)
set_option maxRecDepth 100000 in
set_option maxHeartbeats 4000000 in
theorem lwaits_core (A : Option Addr) (c : Nat) (l : List No) (hl : l.length ≤ 30) (h7 : F7 l) (hc : l.length ≤ c) (Ad : Option Addr) (cd : Nat) (D : List Is) (hD : D.length ≤ 100) (hf : Wf l) (hW : Wd D) (w : World) (hs : Nl w w.heap.size A l) (hd : Dl w w.heap.size l) (hi : Il w w.heap.size Ad D) :
    Calls Tryz.prog 4 #[.slice A l.length c, .slice Ad D.length cd] w (UpPost w) := by
  have HAw := Lib.hid (awake_any w)
  have HFw := fun W h => Lib.hid (Few_any A c l W h)
  have hfw : fw l = true := fw_iff.2 ⟨hl, h7⟩
  rw [hfw] at HFw
  have d2 : decide ((100 : Int) < (D.length : Int)) = false := decide_eq_false (by omega)
  have HRl : ∀ W, Below w.heap.size w W → Hid (Calls Tryz.prog 12 #[.slice A l.length c, .slice Ad D.length cd] W (RdPost W (rd (cs l D) D))) := fun W hB =>
    Ready_any A c l (by omega) hc Ad cd D (by omega) hf hW h7 (Nat.le_trans (cs_len l D) hl) W (hs.to hB hB.size) (hd.to hB hB.size) (hi.to hB hB.size)
  have HMl : ∀ W, Below w.heap.size w W → Hid (Calls Tryz.prog 14 #[.slice A l.length c, .slice Ad D.length cd] W (IsPost W (ms (cs l D) D))) := fun W hB =>
    Missing_any A c l (by omega) hc Ad cd D (by omega) hf hW h7 (Nat.le_trans (cs_len l D) (by omega)) W (hs.to hB hB.size) (hd.to hB hB.size) (hi.to hB hB.size)
  have HS := Lib.hid hs
  have HDl0 := Lib.hid hd
  have HDn0 := Lib.hid hi
  have HWf := Lib.hid hf
  have H7 := Lib.hid h7
  clear hs hd hi hf hW h7 hfw
  go_enter Tryz.func4, Tryz.ntmps4
  go_wp2_with fail
  refine HAw.out.mono ?_
  rintro e w1 ⟨rfl, B1⟩
  have HFw1 := HFw w1 (HS.out.to B1 B1.size)
  go_wp2_with fail
  refine HFw1.out.mono ?_
  rintro e w2 ⟨rfl, rfl⟩
  have HRl1 := HRl w2 B1
  clear HAw HFw HFw1 HRl
  go_wp2_with fail
  refine HRl1.out.mono ?_
  rintro e w3 ⟨v3, o, rfl, hr3, ho3, b3⟩
  obtain ⟨A3, c3, rfl, hI3, -⟩ := own_il ho3
  have hc3 := own_cap ho3
  have B3 := B1.trans (b3.mono B1.size)
  have HMl1 := HMl w3 B3
  have HOrs := Lib.hid (hr3.ors (rd_ri l D))
  have hol : o.length ≤ 900 := hr3.len (Nat.le_trans (rdk_len _ _ _) (Nat.le_trans (cs_len l D) hl))
  have HI3 := Lib.hid hI3
  clear HRl1 hr3 ho3 hI3 HMl b3
  go_wp2_with fail
  refine HMl1.out.mono ?_
  rintro e w4 ⟨v4, rfl, ho4, b4⟩
  obtain ⟨A4, c4, rfl, hI4, -⟩ := own_il ho4
  have hml := ms_len (cs l D) D
  have HB4 := Lib.hid (B3.trans (b4.mono B3.size))
  have HO := Lib.hid (HI3.out.to b4 b4.size)
  have HM := Lib.hid hI4
  have HNl := Lib.hid (HS.out.to HB4.out HB4.out.size)
  have HDl := Lib.hid (HDl0.out.to HB4.out HB4.out.size)
  have HDn := Lib.hid (HDn0.out.to HB4.out HB4.out.size)
  have HLaw := Lib.hid (fun (hdi : Di l) (n : No) (hn : n ∈ l) (hon : n.i ∈ o) => waits_law H7.out hdi HOrs.out hn hon)
  have HMb := Lib.hid (fun m (hm : m ∈ ms (cs l D) D) => mem_ax.1 (mem_ms.1 hm).1)
  generalize ms (cs l D) D = mm at *
  clear HMl1 ho4 hI4 b4 B3 B1 HI3 HS HDl0 HDn0
  go_wp2
  go_loopg [9] l.length (fun q t W => ∃ k : Nat, k + q = l.length ∧ t = .int .i64 (k : Int) ∧ Hid (Dk l k) ∧ Hid (Below w4.heap.size w4 W))
  case atStart => exact ⟨0, by omega, rfl, Dk.zero l, Below.refl _ _⟩
  case round =>
    obtain ⟨k, hk, rfl, hDk, hB⟩ := hrel
    by_cases hlt : k < l.length
    · have hki : (k : Int) < (l.length : Int) := by omega
      have hk0 : (0 : Int) ≤ (k : Int) := by omega
      have HX := Lib.hid (List.getElem?_eq_getElem hlt)
      generalize l[k] = x at *
      go_wp2
      go_loopg [10] k (fun q t W => ∃ j : Nat, j + q = k ∧ t = .int .i64 (j : Int) ∧ Hid (Below w4.heap.size w4 W) ∧ Hid (∀ b y, b < j → l[b]? = some y → x.i ≠ y.i))
      case atStart => exact ⟨0, by omega, rfl, hB.out, fun b y h => by omega⟩
      case round =>
        clear hB
        obtain ⟨j, hj, rfl, hB, hne⟩ := hrel
        by_cases hjt : j < k
        · have hji : (j : Int) < (k : Int) := by omega
          have hjl : (j : Int) < (l.length : Int) := by omega
          have hj0 : (0 : Int) ≤ (j : Int) := by omega
          have HY := Lib.hid (List.getElem?_eq_getElem (show j < l.length by omega))
          have hNw := HNl.out.to hB.out hB.out.size
          obtain ⟨b, off, rfl, hb, p0, p1, p2, p3⟩ := hNw.at_ HX.out
          obtain ⟨b2, off2, e2, hb2, q0, q1, q2, q3⟩ := hNw.at_ HY.out
          cases e2
          generalize l[j] = y at *
          clear p2 p3 q2 q3
          by_cases he : (x.b, x.s) = (y.b, y.s)
          · have hq := same_yes he
            have HBX := Lib.hid (HB4.out.trans (hB.out.mono HB4.out.size))
            clear he
            go_wp2_with fail
            go_quiet (fail)
            go_wp2
            go_ret
            exact ⟨rfl, Gp.below_drewN HBX.out _⟩
          · have hq := same_no he
            have HN2 : Hid (∀ b y, b < j + 1 → l[b]? = some y → x.i ≠ y.i) := fun b z hb hz => by
              rcases Nat.lt_or_ge b j with h | h
              · exact hne.out b z h hz
              · obtain rfl : b = j := by omega
                rw [HY.out] at hz
                cases hz
                exact he
            clear he
            go_wp2_with fail
            go_quiet (fail)
            go_wp2
            go_roundg (k - (j + 1))
            case measure => omega
            case rel => exact ⟨j + 1, by omega, by go_num, Gp.below_drewN hB.out _, HN2.out⟩
        · obtain rfl : j = k := by omega
          have HDk2 := Lib.hid (hDk.out.succ HX.out hne.out)
          go_wp2
          go_roundg (l.length - (j + 1))
          case measure => omega
          case rel => exact ⟨j + 1, by omega, by go_num, HDk2.out, hB.out⟩
    · obtain rfl : l.length = k := by omega
      have HL2 := Lib.hid (HLaw.out hDk.out.di)
      clear HLaw hDk
      go_wp2
      go_loopg [11] l.length (fun q t W => ∃ k : Nat, k + q = l.length ∧ t = .int .i64 (k : Int) ∧ Hid (Below w4.heap.size w4 W))
      case atStart => exact ⟨0, by omega, rfl, hB.out⟩
      case round =>
        clear hB hk hlt
        obtain ⟨k, hk, rfl, hB⟩ := hrel
        by_cases hlt : k < l.length
        · have hki : (k : Int) < (l.length : Int) := by omega
          have hk0 : (0 : Int) ≤ (k : Int) := by omega
          have HX := Lib.hid (List.getElem?_eq_getElem hlt)
          have HMx := Lib.hid (List.getElem_mem hlt)
          have hNw := HNl.out.to hB.out hB.out.size
          obtain ⟨b, off, rfl, hb, p0, p1, p2, p3⟩ := hNw.at_ HX.out
          generalize l[k] = x at *
          have HPl := Lib.hid (place_any A3 c3 o x.i (by omega) wr (HO.out.to hB.out hB.out.size))
          have HLx := Lib.hid (HL2.out x HMx.out)
          have HDx := Lib.hid (HDl.out x HMx.out)
          have HHas : ∀ V, Below w4.heap.size w4 V → x.i ∉ D → Hid (Calls Tryz.prog 19 #[.slice Ad D.length cd, iv x.i] V (BoolPost V false)) := fun V hV hn => has_any Ad cd D x.i false (by simp [hn]) (by omega) V (HDn.out.to hV hV.size)
          obtain ⟨xb, xs, xq, xd, xh, xc⟩ := x
          simp only [No.i, iv] at *
          clear hNw hki
          have hki : (k : Int) < (l.length : Int) := by omega
          go_wp2_with fail
          refine HPl.out.mono ?_
          rintro e w5 ⟨z, rfl, hz, b5⟩
          have HB5 := Lib.hid (hB.out.trans (b5.mono hB.out.size))
          rcases hz with ⟨rfl, -⟩ | ⟨z', rfl, hoz, -⟩
          · go_wp2
            go_roundg (l.length - (k + 1))
            case measure => omega
            case rel => exact ⟨k + 1, by omega, by go_num, HB5.out⟩
          · have hfacts := HLx.out (List.mem_of_getElem? hoz)
            obtain ⟨hfr, hfD, hfm, hfk⟩ := hfacts
            have hz0 : decide ((z' : Int) < 0) = false := decide_eq_false (by omega)
            have hzl := (List.getElem?_eq_some_iff.1 hoz).1
            obtain ⟨zz, hzz⟩ : ∃ zz, zz = z' + 1 := ⟨_, rfl⟩
            have hw : IntKind.i64.wrap ((z' : Int) + 1) = (zz : Int) := by rw [IntWalk.i64_in _ (by omega)]; omega
            have hzz0 : (0 : Int) ≤ (zz : Int) := by omega
            have HHas5 := HHas w5 HB5.out hfD
            have Hfm := Lib.hid hfm
            have Hfk := Lib.hid hfk
            have hNw5 := HNl.out.to HB5.out HB5.out.size
            obtain ⟨b', off', e', hb', p0, p1, p2, p3⟩ := hNw5.at_ HX.out
            cases e'
            have Hoz := Lib.hid hoz
            clear hfm hfk hfr hfD HHas HLx HPl b5 hB hoz hNw5
            go_wp2_with fail
            refine HHas5.out.mono ?_
            rintro e w6 ⟨rfl, b6⟩
            have HB6 := Lib.hid (HB5.out.trans (b6.mono HB5.out.size))
            have hNw6 := HNl.out.to HB6.out HB6.out.size
            obtain ⟨b', off', e', hbl, p0, p1, p2, p3⟩ := hNw6.at_ HX.out
            cases e'
            obtain ⟨Ax, ht1, ht2, hIt⟩ := tail_runI (HO.out.to HB6.out HB6.out.size) c3 zz (by omega) hc3
            have Hnt : Hid ((xb, xs) ∉ o.drop zz) := fun hm => by
              obtain ⟨i, hi⟩ := List.getElem?_of_mem hm
              rw [List.getElem?_drop] at hi
              have := HOrs.out.one _ _ _ hi Hoz.out
              omega
            have HIt := Lib.hid hIt
            have HP2 : ∀ V, Below w6.heap.size w6 V → Hid (Calls Tryz.prog 18 #[.slice Ax (o.drop zz).length (c3 - zz), .agg #[.int .i64 xb, .int .i64 xs]] V (fun e w' => e = .returned (.int .i64 (-1)) ∧ Below V.heap.size V w')) := fun V hV => (place_any Ax _ (o.drop zz) (xb, xs) (by simp; omega) V (HIt.out.to hV hV.size)).mono (by
              rintro e w' ⟨z, rfl, hz, hb⟩
              rcases hz with ⟨rfl, _⟩ | ⟨k', _, hk', _⟩
              · exact ⟨rfl, hb⟩
              · exact absurd (List.mem_of_getElem? hk') Hnt.out)
            have hzd : decide ((z' : Int) + 1 < 0) = false := decide_eq_false (by omega)
            have SB : Hid (∀ v, Below w6.heap.size w6 v → v.cell? ⟨b, off + k * 4, none⟩ = some (.int .i64 xb) ∧ v.cell? ⟨b, off + k * 4 + 1, none⟩ = some (.int .i64 xs)) := Lib.hid (fun v g => ⟨(World.cell?_of_block (g.block _ hbl)).trans p0, (World.cell?_of_block (g.block _ hbl)).trans p1⟩)
            have BD : Hid (Below w6.heap.size w6 w6.drew) := (Below.refl _ _).drew
            clear HHas5 b6 HB5 hIt hNw6 hzz p0 p1 p2 p3 hzd
            generalize (o.drop zz).length = dl at *
            go_wp2_with fail
            refine wp_region_held_drew (S := fun v => Below w6.heap.size w6 v) (by kernel_rfl) BD.out (fun hH => ?_)
            refine wpAnyH_take (i := 0) (v := ?v1) rfl (by kernel_rfl) (by kernel_rfl) (by kernel_rfl) (fun _ _ _ h => h) (Or.inl ⟨by rfl, ?hy1⟩) hH ?rest1
            case hy1 => (intro w hSw; (try dsimp only at hSw); go_simp; try with_reducible rfl)
            try simp only [Act.put, List.setIfInBounds_toArray, List.set_cons_zero, List.set_cons_succ, List.getElem_toArray, List.getElem_cons_zero]
            refine wpAnyH_take (i := 1) (v := ?v2) rfl (by kernel_rfl) (by kernel_rfl) (by kernel_rfl) (fun _ _ _ h => h) (Or.inl ⟨by rfl, ?hy2⟩) hH ?rest2
            case hy2 => (intro w hSw; (try dsimp only at hSw); go_simp; try with_reducible rfl)
            try simp only [Act.put, List.setIfInBounds_toArray, List.set_cons_zero, List.set_cons_succ, List.getElem_toArray, List.getElem_cons_zero, List.getElem_cons_succ]
            refine wpAnyH_take (i := 2) (v := ?v3) rfl (by kernel_rfl) (by kernel_rfl) (by kernel_rfl) (fun _ _ _ h => h) (Or.inl ⟨by rfl, ?hy3⟩) hH ?rest3
            case hy3 => (intro w hSw; (try dsimp only at hSw); go_simp; try with_reducible rfl)
            try simp only [Act.put, List.setIfInBounds_toArray, List.set_cons_zero, List.set_cons_succ, List.getElem_toArray, List.getElem_cons_zero, List.getElem_cons_succ]
            refine wpAnyH_take (i := 3) (v := ?v4) rfl (by kernel_rfl) (by kernel_rfl) (by kernel_rfl) (fun _ _ _ h => h) (Or.inl ⟨by rfl, ?hy4⟩) hH ?rest4
            case hy4 => (intro w hSw; (try dsimp only at hSw); go_simp; try with_reducible rfl)
            try simp only [Act.put, List.setIfInBounds_toArray, List.set_cons_zero, List.set_cons_succ, List.getElem_toArray, List.getElem_cons_zero, List.getElem_cons_succ]
            refine wpAnyH_take (i := 6) (v := ?v5) rfl (by kernel_rfl) (by kernel_rfl) (by kernel_rfl) (fun _ _ _ h => h) (Or.inl ⟨by rfl, ?hy5⟩) hH ?rest5
            case hy5 => (intro w hSw; (try dsimp only at hSw); go_simp; try with_reducible rfl)
            try simp only [Act.put, List.setIfInBounds_toArray, List.set_cons_zero, List.set_cons_succ, List.getElem_toArray, List.getElem_cons_zero, List.getElem_cons_succ]
            refine wpAnyH_take (i := 7) (v := ?v6) rfl (by kernel_rfl) (by kernel_rfl) (by kernel_rfl) (fun _ _ _ h => h) (Or.inl ⟨by rfl, ?hy6⟩) hH ?rest6
            case hy6 => (intro w hSw; (try dsimp only at hSw); go_simp; try with_reducible rfl)
            try simp only [Act.put, List.setIfInBounds_toArray, List.set_cons_zero, List.set_cons_succ, List.getElem_toArray, List.getElem_cons_zero, List.getElem_cons_succ]
            refine wpAnyH_take (i := 4) (v := ?v7) rfl (by kernel_rfl) (by kernel_rfl) (by kernel_rfl) (fun _ _ _ h => h) (Or.inl ⟨by rfl, ?hy7⟩) hH ?rest7
            case hy7 => (intro w hSw; (try dsimp only at hSw); go_simp; try with_reducible rfl)
            try simp only [Act.put, List.setIfInBounds_toArray, List.set_cons_zero, List.set_cons_succ, List.getElem_toArray, List.getElem_cons_zero, List.getElem_cons_succ]
            refine wpAnyH_take (i := 8) (v := ?v8) rfl (by kernel_rfl) (by kernel_rfl) (by kernel_rfl) (fun _ _ _ h => h) (Or.inl ⟨by rfl, ?hy8⟩) hH ?rest8
            case hy8 => (intro w hSw; (try dsimp only at hSw); go_simp; try with_reducible rfl)
            try simp only [Act.put, List.setIfInBounds_toArray, List.set_cons_zero, List.set_cons_succ, List.getElem_toArray, List.getElem_cons_zero, List.getElem_cons_succ]
            refine wpAnyH_take (i := 5) (v := ?v9) rfl (by kernel_rfl) (by kernel_rfl) (by kernel_rfl) (fun _ _ _ h => h) (Or.inl ⟨by rfl, ?hy9⟩) hH ?rest9
            case hy9 => (intro w hSw; (try dsimp only at hSw); go_simp; try with_reducible rfl)
            try simp only [Act.put, List.setIfInBounds_toArray, List.set_cons_zero, List.set_cons_succ, List.getElem_toArray, List.getElem_cons_zero, List.getElem_cons_succ]
            refine wpAnyH_take (i := 9) (v := ?v10) rfl (by kernel_rfl) (by kernel_rfl) (by kernel_rfl) (fun _ _ _ h => h) (Or.inl ⟨by rfl, ?hy10⟩) hH ?rest10
            case hy10 => (intro w hSw; (try dsimp only at hSw); go_simp; try with_reducible rfl)
            try simp only [Act.put, List.setIfInBounds_toArray, List.set_cons_zero, List.set_cons_succ, List.getElem_toArray, List.getElem_cons_zero, List.getElem_cons_succ]
            refine wpAnyH_take (i := 10) (v := ?v11) rfl (by kernel_rfl) (by kernel_rfl) (by kernel_rfl) (fun _ _ _ h => h) (Or.inl ⟨by rfl, ?hy11⟩) hH ?rest11
            case hy11 => (intro w hSw; (try dsimp only at hSw); obtain ⟨f0, f1⟩ := SB.out w hSw; go_simp; try with_reducible rfl)
            try simp only [Act.put, List.setIfInBounds_toArray, List.set_cons_zero, List.set_cons_succ, List.getElem_toArray, List.getElem_cons_zero, List.getElem_cons_succ]
            refine wpAnyH_ready (rs := [11]) (by kernel_rfl) (by simp) ?_
            refine AllReadyH.cons rfl (fun K hK => ?_) AllReadyH.nil
            go_simp
            go_at_call 18
            with_reducible refine (HP2 _ hH).out.mono ?_
            rintro e wq12 ⟨rfl, bq12⟩
            go_wp2_with fail
            refine hK.out _ _ (hH.trans (bq12.mono hH.size)) (fun hH2 => ?_)
            clear hK K hH
            have hH := hH2
            clear hH2
            try simp only [Act.put, List.setIfInBounds_toArray, List.set_cons_zero, List.set_cons_succ, List.getElem_toArray, List.getElem_cons_zero, List.getElem_cons_succ]
            refine wpAnyH_take (i := 12) (v := ?v13) rfl (by kernel_rfl) (by kernel_rfl) (by kernel_rfl) (fun _ _ _ h => h) (Or.inl ⟨by rfl, ?hy13⟩) hH ?rest13
            case hy13 => (intro w hSw; (try dsimp only at hSw); go_simp; try with_reducible rfl)
            try simp only [Act.put, List.setIfInBounds_toArray, List.set_cons_zero, List.set_cons_succ, List.getElem_toArray, List.getElem_cons_zero, List.getElem_cons_succ]
            refine wpAnyH_take (i := 13) (v := ?v14) rfl (by kernel_rfl) (by kernel_rfl) (by kernel_rfl) (fun _ _ _ h => h) (Or.inl ⟨by rfl, ?hy14⟩) hH ?rest14
            case hy14 => (intro w hSw; (try dsimp only at hSw); go_simp; try with_reducible rfl)
            try simp only [Act.put, List.setIfInBounds_toArray, List.set_cons_zero, List.set_cons_succ, List.getElem_toArray, List.getElem_cons_zero, List.getElem_cons_succ]
            refine wpAnyH_done (by kernel_rfl) ?_ _
            have HB7 := Lib.hid (HB6.out.trans (hH.mono HB6.out.size))
            clear HP2 SB BD HB6 Hnt HIt ht1 ht2 hH hw hzz0 hzl Hoz
            go_wp2
            go_loopg [14] mm.length (fun q t W => ∃ j : Nat, j + q = mm.length ∧ t = .int .i64 (j : Int) ∧ Hid (Below w4.heap.size w4 W))
            case atStart => exact ⟨0, by omega, rfl, HB7.out⟩
            case round =>
              clear HB7
              obtain ⟨j, hj, rfl, hB⟩ := hrel
              by_cases hjt : j < mm.length
              · have hji : (j : Int) < (mm.length : Int) := by omega
                have hj0 : (0 : Int) ≤ (j : Int) := by omega
                have HY := Lib.hid (List.getElem?_eq_getElem hjt)
                have HMy := Lib.hid (List.getElem_mem hjt)
                have hNw := HNl.out.to hB.out hB.out.size
                obtain ⟨b', off', e', hbl, p0, p1, p2, p3⟩ := hNw.at_ HX.out
                cases e'
                obtain ⟨b4, off4, rfl, hbl4, m0, m1⟩ := (HM.out.to hB.out hB.out.size).at_ HY.out
                have HW : ∀ V, Below wr.heap.size wr V → Hid (Calls Tryz.prog 20 #[.agg #[.int .i64 xq, .slice xh xd.length xc], iv mm[j]] V (At.BoolPost V (wa ⟨xb, xs, xq, xd, xh, xc⟩ mm[j]))) := fun V hV =>
                  At.waits_any xq mm[j].1 mm[j].2 xh xc xd V ((HDx.out.to hB.out hB.out.size).to hV hV.size) (by have := HMb.out _ HMy.out; omega)
                rw [Hfm.out _ HMy.out] at HW
                generalize mm[j] = y at *
                obtain ⟨yb, ys⟩ := y
                simp only [iv] at *
                have SB : Hid (∀ v, Below wr.heap.size wr v → v.cell? ⟨b, off + k * 4 + 2, none⟩ = some (.int .i64 xq) ∧ v.cell? ⟨b, off + k * 4 + 3, none⟩ = some (.slice xh xd.length xc) ∧ v.cell? ⟨b4, off4 + j * 2, none⟩ = some (.int .i64 yb) ∧ v.cell? ⟨b4, off4 + j * 2 + 1, none⟩ = some (.int .i64 ys)) := Lib.hid (fun v g => ⟨(World.cell?_of_block (g.block _ hbl)).trans p2, (World.cell?_of_block (g.block _ hbl)).trans p3, (World.cell?_of_block (g.block _ hbl4)).trans m0, (World.cell?_of_block (g.block _ hbl4)).trans m1⟩)
                have BD : Hid (Below wr.heap.size wr wr.drew) := (Below.refl _ _).drew
                clear p0 p1 p2 p3 m0 m1 hNw HMy
                go_wp2_with fail
                refine wp_region_held_drew (S := fun v => Below wr.heap.size wr v) (by kernel_rfl) BD.out (fun hH => ?_)
                refine wpAnyH_take (i := 0) (v := ?v15) rfl (by kernel_rfl) (by kernel_rfl) (by kernel_rfl) (fun _ _ _ h => h) (Or.inl ⟨by rfl, ?hy15⟩) hH ?rest15
                case hy15 => (intro w hSw; (try dsimp only at hSw); go_simp; try with_reducible rfl)
                try simp only [Act.put, List.setIfInBounds_toArray, List.set_cons_zero, List.set_cons_succ, List.getElem_toArray, List.getElem_cons_zero]
                refine wpAnyH_take (i := 1) (v := ?v16) rfl (by kernel_rfl) (by kernel_rfl) (by kernel_rfl) (fun _ _ _ h => h) (Or.inl ⟨by rfl, ?hy16⟩) hH ?rest16
                case hy16 => (intro w hSw; (try dsimp only at hSw); go_simp; try with_reducible rfl)
                try simp only [Act.put, List.setIfInBounds_toArray, List.set_cons_zero, List.set_cons_succ, List.getElem_toArray, List.getElem_cons_zero, List.getElem_cons_succ]
                refine wpAnyH_take (i := 5) (v := ?v17) rfl (by kernel_rfl) (by kernel_rfl) (by kernel_rfl) (fun _ _ _ h => h) (Or.inl ⟨by rfl, ?hy17⟩) hH ?rest17
                case hy17 => (intro w hSw; (try dsimp only at hSw); go_simp; try with_reducible rfl)
                try simp only [Act.put, List.setIfInBounds_toArray, List.set_cons_zero, List.set_cons_succ, List.getElem_toArray, List.getElem_cons_zero, List.getElem_cons_succ]
                refine wpAnyH_take (i := 6) (v := ?v18) rfl (by kernel_rfl) (by kernel_rfl) (by kernel_rfl) (fun _ _ _ h => h) (Or.inl ⟨by rfl, ?hy18⟩) hH ?rest18
                case hy18 => (intro w hSw; (try dsimp only at hSw); go_simp; try with_reducible rfl)
                try simp only [Act.put, List.setIfInBounds_toArray, List.set_cons_zero, List.set_cons_succ, List.getElem_toArray, List.getElem_cons_zero, List.getElem_cons_succ]
                refine wpAnyH_take (i := 2) (v := ?v19) rfl (by kernel_rfl) (by kernel_rfl) (by kernel_rfl) (fun _ _ _ h => h) (Or.inl ⟨by rfl, ?hy19⟩) hH ?rest19
                case hy19 => (intro w hSw; (try dsimp only at hSw); go_simp; try with_reducible rfl)
                try simp only [Act.put, List.setIfInBounds_toArray, List.set_cons_zero, List.set_cons_succ, List.getElem_toArray, List.getElem_cons_zero, List.getElem_cons_succ]
                refine wpAnyH_take (i := 7) (v := ?v20) rfl (by kernel_rfl) (by kernel_rfl) (by kernel_rfl) (fun _ _ _ h => h) (Or.inl ⟨by rfl, ?hy20⟩) hH ?rest20
                case hy20 => (intro w hSw; (try dsimp only at hSw); go_simp; try with_reducible rfl)
                try simp only [Act.put, List.setIfInBounds_toArray, List.set_cons_zero, List.set_cons_succ, List.getElem_toArray, List.getElem_cons_zero, List.getElem_cons_succ]
                refine wpAnyH_take (i := 3) (v := ?v21) rfl (by kernel_rfl) (by kernel_rfl) (by kernel_rfl) (fun _ _ _ h => h) (Or.inl ⟨by rfl, ?hy21⟩) hH ?rest21
                case hy21 => (intro w hSw; (try dsimp only at hSw); go_simp; try with_reducible rfl)
                try simp only [Act.put, List.setIfInBounds_toArray, List.set_cons_zero, List.set_cons_succ, List.getElem_toArray, List.getElem_cons_zero, List.getElem_cons_succ]
                refine wpAnyH_take (i := 8) (v := ?v22) rfl (by kernel_rfl) (by kernel_rfl) (by kernel_rfl) (fun _ _ _ h => h) (Or.inl ⟨by rfl, ?hy22⟩) hH ?rest22
                case hy22 => (intro w hSw; (try dsimp only at hSw); obtain ⟨f0, f1, f2, f3⟩ := SB.out w hSw; go_simp; try with_reducible rfl)
                try simp only [Act.put, List.setIfInBounds_toArray, List.set_cons_zero, List.set_cons_succ, List.getElem_toArray, List.getElem_cons_zero, List.getElem_cons_succ]
                refine wpAnyH_take (i := 4) (v := ?v23) rfl (by kernel_rfl) (by kernel_rfl) (by kernel_rfl) (fun _ _ _ h => h) (Or.inl ⟨by rfl, ?hy23⟩) hH ?rest23
                case hy23 => (intro w hSw; (try dsimp only at hSw); obtain ⟨f0, f1, f2, f3⟩ := SB.out w hSw; go_simp; try with_reducible rfl)
                try simp only [Act.put, List.setIfInBounds_toArray, List.set_cons_zero, List.set_cons_succ, List.getElem_toArray, List.getElem_cons_zero, List.getElem_cons_succ]
                refine wpAnyH_ready (rs := [9]) (by kernel_rfl) (by simp) ?_
                refine AllReadyH.cons rfl (fun K hK => ?_) AllReadyH.nil
                go_simp
                go_at_call 20
                with_reducible refine (HW _ hH).out.mono ?_
                rintro e wq24 ⟨rfl, bq24⟩
                go_wp2_with fail
                refine hK.out _ _ (hH.trans (bq24.mono hH.size)) (fun hH2 => ?_)
                clear hK K hH
                have hH := hH2
                clear hH2
                try simp only [Act.put, List.setIfInBounds_toArray, List.set_cons_zero, List.set_cons_succ, List.getElem_toArray, List.getElem_cons_zero, List.getElem_cons_succ]
                refine wpAnyH_done (by kernel_rfl) ?_ _
                have HB8 := Lib.hid (hB.out.trans (hH.mono hB.out.size))
                clear HW SB BD hB hH
                go_wp2
                go_roundg (mm.length - (j + 1))
                case measure => omega
                case rel => exact ⟨j + 1, by omega, by go_num, HB8.out⟩
              · obtain rfl : j = mm.length := by omega
                go_wp2
                go_loopg [15] l.length (fun q t W => ∃ j : Nat, j + q = l.length ∧ t = .int .i64 (j : Int) ∧ Hid (Below w4.heap.size w4 W))
                case atStart => exact ⟨0, by omega, rfl, hB.out⟩
                case round =>
                  clear hB hj hjt
                  obtain ⟨j, hj, rfl, hB⟩ := hrel
                  by_cases hjt : j < l.length
                  · have hji : (j : Int) < (l.length : Int) := by omega
                    have hj0 : (0 : Int) ≤ (j : Int) := by omega
                    have HY := Lib.hid (List.getElem?_eq_getElem hjt)
                    have HMy := Lib.hid (List.getElem_mem hjt)
                    have hNw := HNl.out.to hB.out hB.out.size
                    obtain ⟨b', off', e', hbl, p0, p1, p2, p3⟩ := hNw.at_ HX.out
                    cases e'
                    obtain ⟨b', off', e', _, q0, q1, q2, q3⟩ := hNw.at_ HY.out
                    cases e'
                    have HW : ∀ V, Below wr.heap.size wr V → Hid (Calls Tryz.prog 20 #[.agg #[.int .i64 xq, .slice xh xd.length xc], iv l[j].i] V (At.BoolPost V (wa ⟨xb, xs, xq, xd, xh, xc⟩ l[j].i))) := fun V hV =>
                      At.waits_any xq l[j].b l[j].s xh xc xd V ((HDx.out.to hB.out hB.out.size).to hV hV.size) (HWf.out _ HMy.out).1.1.2
                    have HK2 : Hid (wa ⟨xb, xs, xq, xd, xh, xc⟩ l[j].i = true → l[j].i ∈ D ∨ l[j].i ∈ o) := Hfk.out l[j]
                    have HDin : l[j].i ∈ D → ∀ V, Below wr.heap.size wr V → Hid (Calls Tryz.prog 18 #[.slice Ad D.length cd, iv l[j].i] V (fun e w' => ∃ z : Nat, e = .returned (.int .i64 (z : Int)) ∧ Below V.heap.size V w')) := fun h V hV => place_in Ad cd D _ h (by omega) V ((HDn.out.to hB.out hB.out.size).to hV hV.size)
                    have HDout : l[j].i ∉ D → ∀ V, Below wr.heap.size wr V → Hid (Calls Tryz.prog 18 #[.slice Ad D.length cd, iv l[j].i] V (fun e w' => e = .returned (.int .i64 (-1)) ∧ Below V.heap.size V w')) := fun h V hV => place_out Ad cd D _ h (by omega) V ((HDn.out.to hB.out hB.out.size).to hV hV.size)
                    have HOin : l[j].i ∈ o → ∀ V, Below wr.heap.size wr V → Hid (Calls Tryz.prog 18 #[.slice A3 o.length c3, iv l[j].i] V (fun e w' => ∃ z : Nat, e = .returned (.int .i64 (z : Int)) ∧ Below V.heap.size V w')) := fun h V hV => place_in A3 c3 o _ h (by omega) V ((HO.out.to hB.out hB.out.size).to hV hV.size)
                    generalize l[j] = y at *
                    obtain ⟨yb, ys, yq, yd, yh, yc⟩ := y
                    generalize wa ⟨xb, xs, xq, xd, xh, xc⟩ (No.i ⟨yb, ys, yq, yd, yh, yc⟩) = wv at *
                    simp only [iv, No.i] at *
                    have SB : Hid (∀ v, Below wr.heap.size wr v → v.cell? ⟨b, off + k * 4 + 2, none⟩ = some (.int .i64 xq) ∧ v.cell? ⟨b, off + k * 4 + 3, none⟩ = some (.slice xh xd.length xc) ∧ v.cell? ⟨b, off + j * 4, none⟩ = some (.int .i64 yb) ∧ v.cell? ⟨b, off + j * 4 + 1, none⟩ = some (.int .i64 ys)) := Lib.hid (fun v g => ⟨(World.cell?_of_block (g.block _ hbl)).trans p2, (World.cell?_of_block (g.block _ hbl)).trans p3, (World.cell?_of_block (g.block _ hbl)).trans q0, (World.cell?_of_block (g.block _ hbl)).trans q1⟩)
                    have BD : Hid (Below wr.heap.size wr wr.drew) := (Below.refl _ _).drew
                    clear p0 p1 p2 p3 q0 q1 q2 q3 hNw HMy
                    rcases wv with _ | _
                    · clear HK2 HDin HDout HOin
                      go_wp2_with fail
                      refine wp_region_held_drew (S := fun v => Below wr.heap.size wr v) (by kernel_rfl) BD.out (fun hH => ?_)
                      refine wpAnyH_take (i := 0) (v := ?v25) rfl (by kernel_rfl) (by kernel_rfl) (by kernel_rfl) (fun _ _ _ h => h) (Or.inl ⟨by rfl, ?hy25⟩) hH ?rest25
                      case hy25 => (intro w hSw; (try dsimp only at hSw); go_simp; try with_reducible rfl)
                      try simp only [Act.put, List.setIfInBounds_toArray, List.set_cons_zero, List.set_cons_succ, List.getElem_toArray, List.getElem_cons_zero]
                      refine wpAnyH_take (i := 1) (v := ?v26) rfl (by kernel_rfl) (by kernel_rfl) (by kernel_rfl) (fun _ _ _ h => h) (Or.inl ⟨by rfl, ?hy26⟩) hH ?rest26
                      case hy26 => (intro w hSw; (try dsimp only at hSw); go_simp; try with_reducible rfl)
                      try simp only [Act.put, List.setIfInBounds_toArray, List.set_cons_zero, List.set_cons_succ, List.getElem_toArray, List.getElem_cons_zero, List.getElem_cons_succ]
                      refine wpAnyH_take (i := 5) (v := ?v27) rfl (by kernel_rfl) (by kernel_rfl) (by kernel_rfl) (fun _ _ _ h => h) (Or.inl ⟨by rfl, ?hy27⟩) hH ?rest27
                      case hy27 => (intro w hSw; (try dsimp only at hSw); go_simp; try with_reducible rfl)
                      try simp only [Act.put, List.setIfInBounds_toArray, List.set_cons_zero, List.set_cons_succ, List.getElem_toArray, List.getElem_cons_zero, List.getElem_cons_succ]
                      refine wpAnyH_take (i := 6) (v := ?v28) rfl (by kernel_rfl) (by kernel_rfl) (by kernel_rfl) (fun _ _ _ h => h) (Or.inl ⟨by rfl, ?hy28⟩) hH ?rest28
                      case hy28 => (intro w hSw; (try dsimp only at hSw); go_simp; try with_reducible rfl)
                      try simp only [Act.put, List.setIfInBounds_toArray, List.set_cons_zero, List.set_cons_succ, List.getElem_toArray, List.getElem_cons_zero, List.getElem_cons_succ]
                      refine wpAnyH_take (i := 2) (v := ?v29) rfl (by kernel_rfl) (by kernel_rfl) (by kernel_rfl) (fun _ _ _ h => h) (Or.inl ⟨by rfl, ?hy29⟩) hH ?rest29
                      case hy29 => (intro w hSw; (try dsimp only at hSw); go_simp; try with_reducible rfl)
                      try simp only [Act.put, List.setIfInBounds_toArray, List.set_cons_zero, List.set_cons_succ, List.getElem_toArray, List.getElem_cons_zero, List.getElem_cons_succ]
                      refine wpAnyH_take (i := 7) (v := ?v30) rfl (by kernel_rfl) (by kernel_rfl) (by kernel_rfl) (fun _ _ _ h => h) (Or.inl ⟨by rfl, ?hy30⟩) hH ?rest30
                      case hy30 => (intro w hSw; (try dsimp only at hSw); go_simp; try with_reducible rfl)
                      try simp only [Act.put, List.setIfInBounds_toArray, List.set_cons_zero, List.set_cons_succ, List.getElem_toArray, List.getElem_cons_zero, List.getElem_cons_succ]
                      refine wpAnyH_take (i := 3) (v := ?v31) rfl (by kernel_rfl) (by kernel_rfl) (by kernel_rfl) (fun _ _ _ h => h) (Or.inl ⟨by rfl, ?hy31⟩) hH ?rest31
                      case hy31 => (intro w hSw; (try dsimp only at hSw); go_simp; try with_reducible rfl)
                      try simp only [Act.put, List.setIfInBounds_toArray, List.set_cons_zero, List.set_cons_succ, List.getElem_toArray, List.getElem_cons_zero, List.getElem_cons_succ]
                      refine wpAnyH_take (i := 8) (v := ?v32) rfl (by kernel_rfl) (by kernel_rfl) (by kernel_rfl) (fun _ _ _ h => h) (Or.inl ⟨by rfl, ?hy32⟩) hH ?rest32
                      case hy32 => (intro w hSw; (try dsimp only at hSw); go_simp; try with_reducible rfl)
                      try simp only [Act.put, List.setIfInBounds_toArray, List.set_cons_zero, List.set_cons_succ, List.getElem_toArray, List.getElem_cons_zero, List.getElem_cons_succ]
                      refine wpAnyH_take (i := 4) (v := ?v33) rfl (by kernel_rfl) (by kernel_rfl) (by kernel_rfl) (fun _ _ _ h => h) (Or.inl ⟨by rfl, ?hy33⟩) hH ?rest33
                      case hy33 => (intro w hSw; (try dsimp only at hSw); obtain ⟨f0, f1, f2, f3⟩ := SB.out w hSw; go_simp; try with_reducible rfl)
                      try simp only [Act.put, List.setIfInBounds_toArray, List.set_cons_zero, List.set_cons_succ, List.getElem_toArray, List.getElem_cons_zero, List.getElem_cons_succ]
                      refine wpAnyH_take (i := 9) (v := ?v34) rfl (by kernel_rfl) (by kernel_rfl) (by kernel_rfl) (fun _ _ _ h => h) (Or.inl ⟨by rfl, ?hy34⟩) hH ?rest34
                      case hy34 => (intro w hSw; (try dsimp only at hSw); obtain ⟨f0, f1, f2, f3⟩ := SB.out w hSw; go_simp; try with_reducible rfl)
                      try simp only [Act.put, List.setIfInBounds_toArray, List.set_cons_zero, List.set_cons_succ, List.getElem_toArray, List.getElem_cons_zero, List.getElem_cons_succ]
                      refine wpAnyH_ready (rs := [10]) (by kernel_rfl) (by simp) ?_
                      refine AllReadyH.cons rfl (fun K hK => ?_) AllReadyH.nil
                      go_simp
                      go_at_call 20
                      with_reducible refine (HW _ hH).out.mono ?_
                      rintro e wq35 ⟨rfl, bq35⟩
                      go_wp2_with fail
                      refine hK.out _ _ (hH.trans (bq35.mono hH.size)) (fun hH2 => ?_)
                      clear hK K hH
                      have hH := hH2
                      clear hH2
                      try simp only [Act.put, List.setIfInBounds_toArray, List.set_cons_zero, List.set_cons_succ, List.getElem_toArray, List.getElem_cons_zero, List.getElem_cons_succ]
                      refine wpAnyH_take (i := 11) (v := ?v36) rfl (by kernel_rfl) (by kernel_rfl) (by kernel_rfl) (fun _ _ _ h => h) (Or.inl ⟨by rfl, ?hy36⟩) hH ?rest36
                      case hy36 => (intro w hSw; (try dsimp only at hSw); go_simp; try with_reducible rfl)
                      try simp only [Act.put, List.setIfInBounds_toArray, List.set_cons_zero, List.set_cons_succ, List.getElem_toArray, List.getElem_cons_zero, List.getElem_cons_succ]
                      refine wpAnyH_take (i := 12) (v := undef) rfl (by kernel_rfl) (by kernel_rfl) (by kernel_rfl) (fun _ _ _ h => h) (Or.inr ⟨by rfl, rfl⟩) hH ?rest37
                      try simp only [Act.put, List.setIfInBounds_toArray, List.set_cons_zero, List.set_cons_succ, List.getElem_toArray, List.getElem_cons_zero, List.getElem_cons_succ]
                      refine wpAnyH_take (i := 13) (v := undef) rfl (by kernel_rfl) (by kernel_rfl) (by kernel_rfl) (fun _ _ _ h => h) (Or.inr ⟨by rfl, rfl⟩) hH ?rest38
                      try simp only [Act.put, List.setIfInBounds_toArray, List.set_cons_zero, List.set_cons_succ, List.getElem_toArray, List.getElem_cons_zero, List.getElem_cons_succ]
                      refine wpAnyH_take (i := 14) (v := undef) rfl (by kernel_rfl) (by kernel_rfl) (by kernel_rfl) (fun _ _ _ h => h) (Or.inr ⟨by rfl, rfl⟩) hH ?rest39
                      try simp only [Act.put, List.setIfInBounds_toArray, List.set_cons_zero, List.set_cons_succ, List.getElem_toArray, List.getElem_cons_zero, List.getElem_cons_succ]
                      refine wpAnyH_take (i := 15) (v := undef) rfl (by kernel_rfl) (by kernel_rfl) (by kernel_rfl) (fun _ _ _ h => h) (Or.inr ⟨by rfl, rfl⟩) hH ?rest40
                      try simp only [Act.put, List.setIfInBounds_toArray, List.set_cons_zero, List.set_cons_succ, List.getElem_toArray, List.getElem_cons_zero, List.getElem_cons_succ]
                      refine wpAnyH_take (i := 16) (v := undef) rfl (by kernel_rfl) (by kernel_rfl) (by kernel_rfl) (fun _ _ _ h => h) (Or.inr ⟨by rfl, rfl⟩) hH ?rest41
                      try simp only [Act.put, List.setIfInBounds_toArray, List.set_cons_zero, List.set_cons_succ, List.getElem_toArray, List.getElem_cons_zero, List.getElem_cons_succ]
                      refine wpAnyH_take (i := 17) (v := undef) rfl (by kernel_rfl) (by kernel_rfl) (by kernel_rfl) (fun _ _ _ h => h) (Or.inr ⟨by rfl, rfl⟩) hH ?rest42
                      try simp only [Act.put, List.setIfInBounds_toArray, List.set_cons_zero, List.set_cons_succ, List.getElem_toArray, List.getElem_cons_zero, List.getElem_cons_succ]
                      refine wpAnyH_take (i := 18) (v := undef) rfl (by kernel_rfl) (by kernel_rfl) (by kernel_rfl) (fun _ _ _ h => h) (Or.inr ⟨by rfl, rfl⟩) hH ?rest43
                      try simp only [Act.put, List.setIfInBounds_toArray, List.set_cons_zero, List.set_cons_succ, List.getElem_toArray, List.getElem_cons_zero, List.getElem_cons_succ]
                      refine wpAnyH_take (i := 19) (v := undef) rfl (by kernel_rfl) (by kernel_rfl) (by kernel_rfl) (fun _ _ _ h => h) (Or.inr ⟨by rfl, rfl⟩) hH ?rest44
                      try simp only [Act.put, List.setIfInBounds_toArray, List.set_cons_zero, List.set_cons_succ, List.getElem_toArray, List.getElem_cons_zero, List.getElem_cons_succ]
                      refine wpAnyH_take (i := 20) (v := ?v45) rfl (by kernel_rfl) (by kernel_rfl) (by kernel_rfl) (fun _ _ _ h => h) (Or.inl ⟨by rfl, ?hy45⟩) hH ?rest45
                      case hy45 => (intro w hSw; (try dsimp only at hSw); go_simp; try with_reducible rfl)
                      try simp only [Act.put, List.setIfInBounds_toArray, List.set_cons_zero, List.set_cons_succ, List.getElem_toArray, List.getElem_cons_zero, List.getElem_cons_succ]
                      refine wpAnyH_take (i := 21) (v := ?v46) rfl (by kernel_rfl) (by kernel_rfl) (by kernel_rfl) (fun _ _ _ h => h) (Or.inl ⟨by rfl, ?hy46⟩) hH ?rest46
                      case hy46 => (intro w hSw; (try dsimp only at hSw); go_simp; try with_reducible rfl)
                      try simp only [Act.put, List.setIfInBounds_toArray, List.set_cons_zero, List.set_cons_succ, List.getElem_toArray, List.getElem_cons_zero, List.getElem_cons_succ]
                      refine wpAnyH_take (i := 22) (v := undef) rfl (by kernel_rfl) (by kernel_rfl) (by kernel_rfl) (fun _ _ _ h => h) (Or.inr ⟨by rfl, rfl⟩) hH ?rest47
                      try simp only [Act.put, List.setIfInBounds_toArray, List.set_cons_zero, List.set_cons_succ, List.getElem_toArray, List.getElem_cons_zero, List.getElem_cons_succ]
                      refine wpAnyH_take (i := 23) (v := undef) rfl (by kernel_rfl) (by kernel_rfl) (by kernel_rfl) (fun _ _ _ h => h) (Or.inr ⟨by rfl, rfl⟩) hH ?rest48
                      try simp only [Act.put, List.setIfInBounds_toArray, List.set_cons_zero, List.set_cons_succ, List.getElem_toArray, List.getElem_cons_zero, List.getElem_cons_succ]
                      refine wpAnyH_take (i := 24) (v := undef) rfl (by kernel_rfl) (by kernel_rfl) (by kernel_rfl) (fun _ _ _ h => h) (Or.inr ⟨by rfl, rfl⟩) hH ?rest49
                      try simp only [Act.put, List.setIfInBounds_toArray, List.set_cons_zero, List.set_cons_succ, List.getElem_toArray, List.getElem_cons_zero, List.getElem_cons_succ]
                      refine wpAnyH_take (i := 25) (v := undef) rfl (by kernel_rfl) (by kernel_rfl) (by kernel_rfl) (fun _ _ _ h => h) (Or.inr ⟨by rfl, rfl⟩) hH ?rest50
                      try simp only [Act.put, List.setIfInBounds_toArray, List.set_cons_zero, List.set_cons_succ, List.getElem_toArray, List.getElem_cons_zero, List.getElem_cons_succ]
                      refine wpAnyH_take (i := 26) (v := undef) rfl (by kernel_rfl) (by kernel_rfl) (by kernel_rfl) (fun _ _ _ h => h) (Or.inr ⟨by rfl, rfl⟩) hH ?rest51
                      try simp only [Act.put, List.setIfInBounds_toArray, List.set_cons_zero, List.set_cons_succ, List.getElem_toArray, List.getElem_cons_zero, List.getElem_cons_succ]
                      refine wpAnyH_take (i := 27) (v := undef) rfl (by kernel_rfl) (by kernel_rfl) (by kernel_rfl) (fun _ _ _ h => h) (Or.inr ⟨by rfl, rfl⟩) hH ?rest52
                      try simp only [Act.put, List.setIfInBounds_toArray, List.set_cons_zero, List.set_cons_succ, List.getElem_toArray, List.getElem_cons_zero, List.getElem_cons_succ]
                      refine wpAnyH_take (i := 28) (v := undef) rfl (by kernel_rfl) (by kernel_rfl) (by kernel_rfl) (fun _ _ _ h => h) (Or.inr ⟨by rfl, rfl⟩) hH ?rest53
                      try simp only [Act.put, List.setIfInBounds_toArray, List.set_cons_zero, List.set_cons_succ, List.getElem_toArray, List.getElem_cons_zero, List.getElem_cons_succ]
                      refine wpAnyH_take (i := 29) (v := undef) rfl (by kernel_rfl) (by kernel_rfl) (by kernel_rfl) (fun _ _ _ h => h) (Or.inr ⟨by rfl, rfl⟩) hH ?rest54
                      try simp only [Act.put, List.setIfInBounds_toArray, List.set_cons_zero, List.set_cons_succ, List.getElem_toArray, List.getElem_cons_zero, List.getElem_cons_succ]
                      refine wpAnyH_take (i := 30) (v := ?v55) rfl (by kernel_rfl) (by kernel_rfl) (by kernel_rfl) (fun _ _ _ h => h) (Or.inl ⟨by rfl, ?hy55⟩) hH ?rest55
                      case hy55 => (intro w hSw; (try dsimp only at hSw); go_simp; try with_reducible rfl)
                      try simp only [Act.put, List.setIfInBounds_toArray, List.set_cons_zero, List.set_cons_succ, List.getElem_toArray, List.getElem_cons_zero, List.getElem_cons_succ]
                      refine wpAnyH_done (by kernel_rfl) ?_ _
                      have HB8 := Lib.hid (hB.out.trans (hH.mono hB.out.size))
                      clear HW SB BD hB hH
                      go_wp2
                      go_roundg (l.length - (j + 1))
                      case measure => omega
                      case rel => exact ⟨j + 1, by omega, by go_num, HB8.out⟩
                    · by_cases hyD : (yb, ys) ∈ D
                      · have HP := HDin hyD
                        clear HK2 HDin HDout HOin hyD
                        go_wp2_with fail
                        refine wp_region_held_drew (S := fun v => Below wr.heap.size wr v) (by kernel_rfl) BD.out (fun hH => ?_)
                        refine wpAnyH_take (i := 0) (v := ?v56) rfl (by kernel_rfl) (by kernel_rfl) (by kernel_rfl) (fun _ _ _ h => h) (Or.inl ⟨by rfl, ?hy56⟩) hH ?rest56
                        case hy56 => (intro w hSw; (try dsimp only at hSw); go_simp; try with_reducible rfl)
                        try simp only [Act.put, List.setIfInBounds_toArray, List.set_cons_zero, List.set_cons_succ, List.getElem_toArray, List.getElem_cons_zero]
                        refine wpAnyH_take (i := 1) (v := ?v57) rfl (by kernel_rfl) (by kernel_rfl) (by kernel_rfl) (fun _ _ _ h => h) (Or.inl ⟨by rfl, ?hy57⟩) hH ?rest57
                        case hy57 => (intro w hSw; (try dsimp only at hSw); go_simp; try with_reducible rfl)
                        try simp only [Act.put, List.setIfInBounds_toArray, List.set_cons_zero, List.set_cons_succ, List.getElem_toArray, List.getElem_cons_zero, List.getElem_cons_succ]
                        refine wpAnyH_take (i := 5) (v := ?v58) rfl (by kernel_rfl) (by kernel_rfl) (by kernel_rfl) (fun _ _ _ h => h) (Or.inl ⟨by rfl, ?hy58⟩) hH ?rest58
                        case hy58 => (intro w hSw; (try dsimp only at hSw); go_simp; try with_reducible rfl)
                        try simp only [Act.put, List.setIfInBounds_toArray, List.set_cons_zero, List.set_cons_succ, List.getElem_toArray, List.getElem_cons_zero, List.getElem_cons_succ]
                        refine wpAnyH_take (i := 6) (v := ?v59) rfl (by kernel_rfl) (by kernel_rfl) (by kernel_rfl) (fun _ _ _ h => h) (Or.inl ⟨by rfl, ?hy59⟩) hH ?rest59
                        case hy59 => (intro w hSw; (try dsimp only at hSw); go_simp; try with_reducible rfl)
                        try simp only [Act.put, List.setIfInBounds_toArray, List.set_cons_zero, List.set_cons_succ, List.getElem_toArray, List.getElem_cons_zero, List.getElem_cons_succ]
                        refine wpAnyH_take (i := 2) (v := ?v60) rfl (by kernel_rfl) (by kernel_rfl) (by kernel_rfl) (fun _ _ _ h => h) (Or.inl ⟨by rfl, ?hy60⟩) hH ?rest60
                        case hy60 => (intro w hSw; (try dsimp only at hSw); go_simp; try with_reducible rfl)
                        try simp only [Act.put, List.setIfInBounds_toArray, List.set_cons_zero, List.set_cons_succ, List.getElem_toArray, List.getElem_cons_zero, List.getElem_cons_succ]
                        refine wpAnyH_take (i := 7) (v := ?v61) rfl (by kernel_rfl) (by kernel_rfl) (by kernel_rfl) (fun _ _ _ h => h) (Or.inl ⟨by rfl, ?hy61⟩) hH ?rest61
                        case hy61 => (intro w hSw; (try dsimp only at hSw); go_simp; try with_reducible rfl)
                        try simp only [Act.put, List.setIfInBounds_toArray, List.set_cons_zero, List.set_cons_succ, List.getElem_toArray, List.getElem_cons_zero, List.getElem_cons_succ]
                        refine wpAnyH_take (i := 3) (v := ?v62) rfl (by kernel_rfl) (by kernel_rfl) (by kernel_rfl) (fun _ _ _ h => h) (Or.inl ⟨by rfl, ?hy62⟩) hH ?rest62
                        case hy62 => (intro w hSw; (try dsimp only at hSw); go_simp; try with_reducible rfl)
                        try simp only [Act.put, List.setIfInBounds_toArray, List.set_cons_zero, List.set_cons_succ, List.getElem_toArray, List.getElem_cons_zero, List.getElem_cons_succ]
                        refine wpAnyH_take (i := 8) (v := ?v63) rfl (by kernel_rfl) (by kernel_rfl) (by kernel_rfl) (fun _ _ _ h => h) (Or.inl ⟨by rfl, ?hy63⟩) hH ?rest63
                        case hy63 => (intro w hSw; (try dsimp only at hSw); go_simp; try with_reducible rfl)
                        try simp only [Act.put, List.setIfInBounds_toArray, List.set_cons_zero, List.set_cons_succ, List.getElem_toArray, List.getElem_cons_zero, List.getElem_cons_succ]
                        refine wpAnyH_take (i := 4) (v := ?v64) rfl (by kernel_rfl) (by kernel_rfl) (by kernel_rfl) (fun _ _ _ h => h) (Or.inl ⟨by rfl, ?hy64⟩) hH ?rest64
                        case hy64 => (intro w hSw; (try dsimp only at hSw); obtain ⟨f0, f1, f2, f3⟩ := SB.out w hSw; go_simp; try with_reducible rfl)
                        try simp only [Act.put, List.setIfInBounds_toArray, List.set_cons_zero, List.set_cons_succ, List.getElem_toArray, List.getElem_cons_zero, List.getElem_cons_succ]
                        refine wpAnyH_take (i := 9) (v := ?v65) rfl (by kernel_rfl) (by kernel_rfl) (by kernel_rfl) (fun _ _ _ h => h) (Or.inl ⟨by rfl, ?hy65⟩) hH ?rest65
                        case hy65 => (intro w hSw; (try dsimp only at hSw); obtain ⟨f0, f1, f2, f3⟩ := SB.out w hSw; go_simp; try with_reducible rfl)
                        try simp only [Act.put, List.setIfInBounds_toArray, List.set_cons_zero, List.set_cons_succ, List.getElem_toArray, List.getElem_cons_zero, List.getElem_cons_succ]
                        refine wpAnyH_ready (rs := [10]) (by kernel_rfl) (by simp) ?_
                        refine AllReadyH.cons rfl (fun K hK => ?_) AllReadyH.nil
                        go_simp
                        go_at_call 20
                        with_reducible refine (HW _ hH).out.mono ?_
                        rintro e wq66 ⟨rfl, bq66⟩
                        go_wp2_with fail
                        refine hK.out _ _ (hH.trans (bq66.mono hH.size)) (fun hH2 => ?_)
                        clear hK K hH
                        have hH := hH2
                        clear hH2
                        try simp only [Act.put, List.setIfInBounds_toArray, List.set_cons_zero, List.set_cons_succ, List.getElem_toArray, List.getElem_cons_zero, List.getElem_cons_succ]
                        refine wpAnyH_take (i := 11) (v := ?v67) rfl (by kernel_rfl) (by kernel_rfl) (by kernel_rfl) (fun _ _ _ h => h) (Or.inl ⟨by rfl, ?hy67⟩) hH ?rest67
                        case hy67 => (intro w hSw; (try dsimp only at hSw); go_simp; try with_reducible rfl)
                        try simp only [Act.put, List.setIfInBounds_toArray, List.set_cons_zero, List.set_cons_succ, List.getElem_toArray, List.getElem_cons_zero, List.getElem_cons_succ]
                        refine wpAnyH_take (i := 12) (v := ?v68) rfl (by kernel_rfl) (by kernel_rfl) (by kernel_rfl) (fun _ _ _ h => h) (Or.inl ⟨by rfl, ?hy68⟩) hH ?rest68
                        case hy68 => (intro w hSw; (try dsimp only at hSw); go_simp; try with_reducible rfl)
                        try simp only [Act.put, List.setIfInBounds_toArray, List.set_cons_zero, List.set_cons_succ, List.getElem_toArray, List.getElem_cons_zero, List.getElem_cons_succ]
                        refine wpAnyH_take (i := 13) (v := ?v69) rfl (by kernel_rfl) (by kernel_rfl) (by kernel_rfl) (fun _ _ _ h => h) (Or.inl ⟨by rfl, ?hy69⟩) hH ?rest69
                        case hy69 => (intro w hSw; (try dsimp only at hSw); go_simp; try with_reducible rfl)
                        try simp only [Act.put, List.setIfInBounds_toArray, List.set_cons_zero, List.set_cons_succ, List.getElem_toArray, List.getElem_cons_zero, List.getElem_cons_succ]
                        refine wpAnyH_take (i := 14) (v := ?v70) rfl (by kernel_rfl) (by kernel_rfl) (by kernel_rfl) (fun _ _ _ h => h) (Or.inl ⟨by rfl, ?hy70⟩) hH ?rest70
                        case hy70 => (intro w hSw; (try dsimp only at hSw); go_simp; try with_reducible rfl)
                        try simp only [Act.put, List.setIfInBounds_toArray, List.set_cons_zero, List.set_cons_succ, List.getElem_toArray, List.getElem_cons_zero, List.getElem_cons_succ]
                        refine wpAnyH_take (i := 15) (v := ?v71) rfl (by kernel_rfl) (by kernel_rfl) (by kernel_rfl) (fun _ _ _ h => h) (Or.inl ⟨by rfl, ?hy71⟩) hH ?rest71
                        case hy71 => (intro w hSw; (try dsimp only at hSw); go_simp; try with_reducible rfl)
                        try simp only [Act.put, List.setIfInBounds_toArray, List.set_cons_zero, List.set_cons_succ, List.getElem_toArray, List.getElem_cons_zero, List.getElem_cons_succ]
                        refine wpAnyH_take (i := 16) (v := ?v72) rfl (by kernel_rfl) (by kernel_rfl) (by kernel_rfl) (fun _ _ _ h => h) (Or.inl ⟨by rfl, ?hy72⟩) hH ?rest72
                        case hy72 => (intro w hSw; (try dsimp only at hSw); go_simp; try with_reducible rfl)
                        try simp only [Act.put, List.setIfInBounds_toArray, List.set_cons_zero, List.set_cons_succ, List.getElem_toArray, List.getElem_cons_zero, List.getElem_cons_succ]
                        refine wpAnyH_take (i := 17) (v := ?v73) rfl (by kernel_rfl) (by kernel_rfl) (by kernel_rfl) (fun _ _ _ h => h) (Or.inl ⟨by rfl, ?hy73⟩) hH ?rest73
                        case hy73 => (intro w hSw; (try dsimp only at hSw); obtain ⟨f0, f1, f2, f3⟩ := SB.out w hSw; go_simp; try with_reducible rfl)
                        try simp only [Act.put, List.setIfInBounds_toArray, List.set_cons_zero, List.set_cons_succ, List.getElem_toArray, List.getElem_cons_zero, List.getElem_cons_succ]
                        refine wpAnyH_ready (rs := [18]) (by kernel_rfl) (by simp) ?_
                        refine AllReadyH.cons rfl (fun K hK => ?_) AllReadyH.nil
                        go_simp
                        go_at_call 18
                        with_reducible refine (HP _ hH).out.mono ?_
                        rintro e wq74 ⟨zn74, rfl, bq74⟩
                        have hzn74 : decide ((zn74 : Int) < 0) = false := decide_eq_false (by omega)
                        go_wp2_with fail
                        refine hK.out _ _ (hH.trans (bq74.mono hH.size)) (fun hH2 => ?_)
                        clear hK K hH
                        have hH := hH2
                        clear hH2
                        try simp only [Act.put, List.setIfInBounds_toArray, List.set_cons_zero, List.set_cons_succ, List.getElem_toArray, List.getElem_cons_zero, List.getElem_cons_succ]
                        refine wpAnyH_take (i := 19) (v := ?v75) rfl (by kernel_rfl) (by kernel_rfl) (by kernel_rfl) (fun _ _ _ h => h) (Or.inl ⟨by rfl, ?hy75⟩) hH ?rest75
                        case hy75 => (intro w hSw; (try dsimp only at hSw); go_simp; try with_reducible rfl)
                        try simp only [Act.put, List.setIfInBounds_toArray, List.set_cons_zero, List.set_cons_succ, List.getElem_toArray, List.getElem_cons_zero, List.getElem_cons_succ]
                        refine wpAnyH_take (i := 20) (v := ?v76) rfl (by kernel_rfl) (by kernel_rfl) (by kernel_rfl) (fun _ _ _ h => h) (Or.inl ⟨by rfl, ?hy76⟩) hH ?rest76
                        case hy76 => (intro w hSw; (try dsimp only at hSw); go_simp; try with_reducible rfl)
                        try simp only [Act.put, List.setIfInBounds_toArray, List.set_cons_zero, List.set_cons_succ, List.getElem_toArray, List.getElem_cons_zero, List.getElem_cons_succ]
                        refine wpAnyH_take (i := 21) (v := ?v77) rfl (by kernel_rfl) (by kernel_rfl) (by kernel_rfl) (fun _ _ _ h => h) (Or.inl ⟨by rfl, ?hy77⟩) hH ?rest77
                        case hy77 => (intro w hSw; (try dsimp only at hSw); go_simp; try with_reducible rfl)
                        try simp only [Act.put, List.setIfInBounds_toArray, List.set_cons_zero, List.set_cons_succ, List.getElem_toArray, List.getElem_cons_zero, List.getElem_cons_succ]
                        refine wpAnyH_take (i := 22) (v := undef) rfl (by kernel_rfl) (by kernel_rfl) (by kernel_rfl) (fun _ _ _ h => h) (Or.inr ⟨by rfl, rfl⟩) hH ?rest78
                        try simp only [Act.put, List.setIfInBounds_toArray, List.set_cons_zero, List.set_cons_succ, List.getElem_toArray, List.getElem_cons_zero, List.getElem_cons_succ]
                        refine wpAnyH_take (i := 23) (v := undef) rfl (by kernel_rfl) (by kernel_rfl) (by kernel_rfl) (fun _ _ _ h => h) (Or.inr ⟨by rfl, rfl⟩) hH ?rest79
                        try simp only [Act.put, List.setIfInBounds_toArray, List.set_cons_zero, List.set_cons_succ, List.getElem_toArray, List.getElem_cons_zero, List.getElem_cons_succ]
                        refine wpAnyH_take (i := 24) (v := undef) rfl (by kernel_rfl) (by kernel_rfl) (by kernel_rfl) (fun _ _ _ h => h) (Or.inr ⟨by rfl, rfl⟩) hH ?rest80
                        try simp only [Act.put, List.setIfInBounds_toArray, List.set_cons_zero, List.set_cons_succ, List.getElem_toArray, List.getElem_cons_zero, List.getElem_cons_succ]
                        refine wpAnyH_take (i := 25) (v := undef) rfl (by kernel_rfl) (by kernel_rfl) (by kernel_rfl) (fun _ _ _ h => h) (Or.inr ⟨by rfl, rfl⟩) hH ?rest81
                        try simp only [Act.put, List.setIfInBounds_toArray, List.set_cons_zero, List.set_cons_succ, List.getElem_toArray, List.getElem_cons_zero, List.getElem_cons_succ]
                        refine wpAnyH_take (i := 26) (v := undef) rfl (by kernel_rfl) (by kernel_rfl) (by kernel_rfl) (fun _ _ _ h => h) (Or.inr ⟨by rfl, rfl⟩) hH ?rest82
                        try simp only [Act.put, List.setIfInBounds_toArray, List.set_cons_zero, List.set_cons_succ, List.getElem_toArray, List.getElem_cons_zero, List.getElem_cons_succ]
                        refine wpAnyH_take (i := 27) (v := undef) rfl (by kernel_rfl) (by kernel_rfl) (by kernel_rfl) (fun _ _ _ h => h) (Or.inr ⟨by rfl, rfl⟩) hH ?rest83
                        try simp only [Act.put, List.setIfInBounds_toArray, List.set_cons_zero, List.set_cons_succ, List.getElem_toArray, List.getElem_cons_zero, List.getElem_cons_succ]
                        refine wpAnyH_take (i := 28) (v := undef) rfl (by kernel_rfl) (by kernel_rfl) (by kernel_rfl) (fun _ _ _ h => h) (Or.inr ⟨by rfl, rfl⟩) hH ?rest84
                        try simp only [Act.put, List.setIfInBounds_toArray, List.set_cons_zero, List.set_cons_succ, List.getElem_toArray, List.getElem_cons_zero, List.getElem_cons_succ]
                        refine wpAnyH_take (i := 29) (v := undef) rfl (by kernel_rfl) (by kernel_rfl) (by kernel_rfl) (fun _ _ _ h => h) (Or.inr ⟨by rfl, rfl⟩) hH ?rest85
                        try simp only [Act.put, List.setIfInBounds_toArray, List.set_cons_zero, List.set_cons_succ, List.getElem_toArray, List.getElem_cons_zero, List.getElem_cons_succ]
                        refine wpAnyH_take (i := 30) (v := ?v86) rfl (by kernel_rfl) (by kernel_rfl) (by kernel_rfl) (fun _ _ _ h => h) (Or.inl ⟨by rfl, ?hy86⟩) hH ?rest86
                        case hy86 => (intro w hSw; (try dsimp only at hSw); go_simp; try with_reducible rfl)
                        try simp only [Act.put, List.setIfInBounds_toArray, List.set_cons_zero, List.set_cons_succ, List.getElem_toArray, List.getElem_cons_zero, List.getElem_cons_succ]
                        refine wpAnyH_done (by kernel_rfl) ?_ _
                        clear HP
                        have HB8 := Lib.hid (hB.out.trans (hH.mono hB.out.size))
                        clear HW SB BD hB hH
                        go_wp2
                        go_roundg (l.length - (j + 1))
                        case measure => omega
                        case rel => exact ⟨j + 1, by omega, by go_num, HB8.out⟩
                      · have HP := HDout hyD
                        have HQ := HOin ((HK2.out rfl).resolve_left hyD)
                        clear HK2 HDin HDout HOin hyD
                        go_wp2_with fail
                        refine wp_region_held_drew (S := fun v => Below wr.heap.size wr v) (by kernel_rfl) BD.out (fun hH => ?_)
                        refine wpAnyH_take (i := 0) (v := ?v87) rfl (by kernel_rfl) (by kernel_rfl) (by kernel_rfl) (fun _ _ _ h => h) (Or.inl ⟨by rfl, ?hy87⟩) hH ?rest87
                        case hy87 => (intro w hSw; (try dsimp only at hSw); go_simp; try with_reducible rfl)
                        try simp only [Act.put, List.setIfInBounds_toArray, List.set_cons_zero, List.set_cons_succ, List.getElem_toArray, List.getElem_cons_zero]
                        refine wpAnyH_take (i := 1) (v := ?v88) rfl (by kernel_rfl) (by kernel_rfl) (by kernel_rfl) (fun _ _ _ h => h) (Or.inl ⟨by rfl, ?hy88⟩) hH ?rest88
                        case hy88 => (intro w hSw; (try dsimp only at hSw); go_simp; try with_reducible rfl)
                        try simp only [Act.put, List.setIfInBounds_toArray, List.set_cons_zero, List.set_cons_succ, List.getElem_toArray, List.getElem_cons_zero, List.getElem_cons_succ]
                        refine wpAnyH_take (i := 5) (v := ?v89) rfl (by kernel_rfl) (by kernel_rfl) (by kernel_rfl) (fun _ _ _ h => h) (Or.inl ⟨by rfl, ?hy89⟩) hH ?rest89
                        case hy89 => (intro w hSw; (try dsimp only at hSw); go_simp; try with_reducible rfl)
                        try simp only [Act.put, List.setIfInBounds_toArray, List.set_cons_zero, List.set_cons_succ, List.getElem_toArray, List.getElem_cons_zero, List.getElem_cons_succ]
                        refine wpAnyH_take (i := 6) (v := ?v90) rfl (by kernel_rfl) (by kernel_rfl) (by kernel_rfl) (fun _ _ _ h => h) (Or.inl ⟨by rfl, ?hy90⟩) hH ?rest90
                        case hy90 => (intro w hSw; (try dsimp only at hSw); go_simp; try with_reducible rfl)
                        try simp only [Act.put, List.setIfInBounds_toArray, List.set_cons_zero, List.set_cons_succ, List.getElem_toArray, List.getElem_cons_zero, List.getElem_cons_succ]
                        refine wpAnyH_take (i := 2) (v := ?v91) rfl (by kernel_rfl) (by kernel_rfl) (by kernel_rfl) (fun _ _ _ h => h) (Or.inl ⟨by rfl, ?hy91⟩) hH ?rest91
                        case hy91 => (intro w hSw; (try dsimp only at hSw); go_simp; try with_reducible rfl)
                        try simp only [Act.put, List.setIfInBounds_toArray, List.set_cons_zero, List.set_cons_succ, List.getElem_toArray, List.getElem_cons_zero, List.getElem_cons_succ]
                        refine wpAnyH_take (i := 7) (v := ?v92) rfl (by kernel_rfl) (by kernel_rfl) (by kernel_rfl) (fun _ _ _ h => h) (Or.inl ⟨by rfl, ?hy92⟩) hH ?rest92
                        case hy92 => (intro w hSw; (try dsimp only at hSw); go_simp; try with_reducible rfl)
                        try simp only [Act.put, List.setIfInBounds_toArray, List.set_cons_zero, List.set_cons_succ, List.getElem_toArray, List.getElem_cons_zero, List.getElem_cons_succ]
                        refine wpAnyH_take (i := 3) (v := ?v93) rfl (by kernel_rfl) (by kernel_rfl) (by kernel_rfl) (fun _ _ _ h => h) (Or.inl ⟨by rfl, ?hy93⟩) hH ?rest93
                        case hy93 => (intro w hSw; (try dsimp only at hSw); go_simp; try with_reducible rfl)
                        try simp only [Act.put, List.setIfInBounds_toArray, List.set_cons_zero, List.set_cons_succ, List.getElem_toArray, List.getElem_cons_zero, List.getElem_cons_succ]
                        refine wpAnyH_take (i := 8) (v := ?v94) rfl (by kernel_rfl) (by kernel_rfl) (by kernel_rfl) (fun _ _ _ h => h) (Or.inl ⟨by rfl, ?hy94⟩) hH ?rest94
                        case hy94 => (intro w hSw; (try dsimp only at hSw); go_simp; try with_reducible rfl)
                        try simp only [Act.put, List.setIfInBounds_toArray, List.set_cons_zero, List.set_cons_succ, List.getElem_toArray, List.getElem_cons_zero, List.getElem_cons_succ]
                        refine wpAnyH_take (i := 4) (v := ?v95) rfl (by kernel_rfl) (by kernel_rfl) (by kernel_rfl) (fun _ _ _ h => h) (Or.inl ⟨by rfl, ?hy95⟩) hH ?rest95
                        case hy95 => (intro w hSw; (try dsimp only at hSw); obtain ⟨f0, f1, f2, f3⟩ := SB.out w hSw; go_simp; try with_reducible rfl)
                        try simp only [Act.put, List.setIfInBounds_toArray, List.set_cons_zero, List.set_cons_succ, List.getElem_toArray, List.getElem_cons_zero, List.getElem_cons_succ]
                        refine wpAnyH_take (i := 9) (v := ?v96) rfl (by kernel_rfl) (by kernel_rfl) (by kernel_rfl) (fun _ _ _ h => h) (Or.inl ⟨by rfl, ?hy96⟩) hH ?rest96
                        case hy96 => (intro w hSw; (try dsimp only at hSw); obtain ⟨f0, f1, f2, f3⟩ := SB.out w hSw; go_simp; try with_reducible rfl)
                        try simp only [Act.put, List.setIfInBounds_toArray, List.set_cons_zero, List.set_cons_succ, List.getElem_toArray, List.getElem_cons_zero, List.getElem_cons_succ]
                        refine wpAnyH_ready (rs := [10]) (by kernel_rfl) (by simp) ?_
                        refine AllReadyH.cons rfl (fun K hK => ?_) AllReadyH.nil
                        go_simp
                        go_at_call 20
                        with_reducible refine (HW _ hH).out.mono ?_
                        rintro e wq97 ⟨rfl, bq97⟩
                        go_wp2_with fail
                        refine hK.out _ _ (hH.trans (bq97.mono hH.size)) (fun hH2 => ?_)
                        clear hK K hH
                        have hH := hH2
                        clear hH2
                        try simp only [Act.put, List.setIfInBounds_toArray, List.set_cons_zero, List.set_cons_succ, List.getElem_toArray, List.getElem_cons_zero, List.getElem_cons_succ]
                        refine wpAnyH_take (i := 11) (v := ?v98) rfl (by kernel_rfl) (by kernel_rfl) (by kernel_rfl) (fun _ _ _ h => h) (Or.inl ⟨by rfl, ?hy98⟩) hH ?rest98
                        case hy98 => (intro w hSw; (try dsimp only at hSw); go_simp; try with_reducible rfl)
                        try simp only [Act.put, List.setIfInBounds_toArray, List.set_cons_zero, List.set_cons_succ, List.getElem_toArray, List.getElem_cons_zero, List.getElem_cons_succ]
                        refine wpAnyH_take (i := 12) (v := ?v99) rfl (by kernel_rfl) (by kernel_rfl) (by kernel_rfl) (fun _ _ _ h => h) (Or.inl ⟨by rfl, ?hy99⟩) hH ?rest99
                        case hy99 => (intro w hSw; (try dsimp only at hSw); go_simp; try with_reducible rfl)
                        try simp only [Act.put, List.setIfInBounds_toArray, List.set_cons_zero, List.set_cons_succ, List.getElem_toArray, List.getElem_cons_zero, List.getElem_cons_succ]
                        refine wpAnyH_take (i := 13) (v := ?v100) rfl (by kernel_rfl) (by kernel_rfl) (by kernel_rfl) (fun _ _ _ h => h) (Or.inl ⟨by rfl, ?hy100⟩) hH ?rest100
                        case hy100 => (intro w hSw; (try dsimp only at hSw); go_simp; try with_reducible rfl)
                        try simp only [Act.put, List.setIfInBounds_toArray, List.set_cons_zero, List.set_cons_succ, List.getElem_toArray, List.getElem_cons_zero, List.getElem_cons_succ]
                        refine wpAnyH_take (i := 14) (v := ?v101) rfl (by kernel_rfl) (by kernel_rfl) (by kernel_rfl) (fun _ _ _ h => h) (Or.inl ⟨by rfl, ?hy101⟩) hH ?rest101
                        case hy101 => (intro w hSw; (try dsimp only at hSw); go_simp; try with_reducible rfl)
                        try simp only [Act.put, List.setIfInBounds_toArray, List.set_cons_zero, List.set_cons_succ, List.getElem_toArray, List.getElem_cons_zero, List.getElem_cons_succ]
                        refine wpAnyH_take (i := 15) (v := ?v102) rfl (by kernel_rfl) (by kernel_rfl) (by kernel_rfl) (fun _ _ _ h => h) (Or.inl ⟨by rfl, ?hy102⟩) hH ?rest102
                        case hy102 => (intro w hSw; (try dsimp only at hSw); go_simp; try with_reducible rfl)
                        try simp only [Act.put, List.setIfInBounds_toArray, List.set_cons_zero, List.set_cons_succ, List.getElem_toArray, List.getElem_cons_zero, List.getElem_cons_succ]
                        refine wpAnyH_take (i := 16) (v := ?v103) rfl (by kernel_rfl) (by kernel_rfl) (by kernel_rfl) (fun _ _ _ h => h) (Or.inl ⟨by rfl, ?hy103⟩) hH ?rest103
                        case hy103 => (intro w hSw; (try dsimp only at hSw); go_simp; try with_reducible rfl)
                        try simp only [Act.put, List.setIfInBounds_toArray, List.set_cons_zero, List.set_cons_succ, List.getElem_toArray, List.getElem_cons_zero, List.getElem_cons_succ]
                        refine wpAnyH_take (i := 17) (v := ?v104) rfl (by kernel_rfl) (by kernel_rfl) (by kernel_rfl) (fun _ _ _ h => h) (Or.inl ⟨by rfl, ?hy104⟩) hH ?rest104
                        case hy104 => (intro w hSw; (try dsimp only at hSw); obtain ⟨f0, f1, f2, f3⟩ := SB.out w hSw; go_simp; try with_reducible rfl)
                        try simp only [Act.put, List.setIfInBounds_toArray, List.set_cons_zero, List.set_cons_succ, List.getElem_toArray, List.getElem_cons_zero, List.getElem_cons_succ]
                        refine wpAnyH_ready (rs := [18]) (by kernel_rfl) (by simp) ?_
                        refine AllReadyH.cons rfl (fun K hK => ?_) AllReadyH.nil
                        go_simp
                        go_at_call 18
                        with_reducible refine (HP _ hH).out.mono ?_
                        rintro e wq105 ⟨rfl, bq105⟩
                        go_wp2_with fail
                        refine hK.out _ _ (hH.trans (bq105.mono hH.size)) (fun hH2 => ?_)
                        clear hK K hH
                        have hH := hH2
                        clear hH2
                        try simp only [Act.put, List.setIfInBounds_toArray, List.set_cons_zero, List.set_cons_succ, List.getElem_toArray, List.getElem_cons_zero, List.getElem_cons_succ]
                        refine wpAnyH_take (i := 19) (v := ?v106) rfl (by kernel_rfl) (by kernel_rfl) (by kernel_rfl) (fun _ _ _ h => h) (Or.inl ⟨by rfl, ?hy106⟩) hH ?rest106
                        case hy106 => (intro w hSw; (try dsimp only at hSw); go_simp; try with_reducible rfl)
                        try simp only [Act.put, List.setIfInBounds_toArray, List.set_cons_zero, List.set_cons_succ, List.getElem_toArray, List.getElem_cons_zero, List.getElem_cons_succ]
                        refine wpAnyH_take (i := 20) (v := ?v107) rfl (by kernel_rfl) (by kernel_rfl) (by kernel_rfl) (fun _ _ _ h => h) (Or.inl ⟨by rfl, ?hy107⟩) hH ?rest107
                        case hy107 => (intro w hSw; (try dsimp only at hSw); go_simp; try with_reducible rfl)
                        try simp only [Act.put, List.setIfInBounds_toArray, List.set_cons_zero, List.set_cons_succ, List.getElem_toArray, List.getElem_cons_zero, List.getElem_cons_succ]
                        refine wpAnyH_take (i := 21) (v := ?v108) rfl (by kernel_rfl) (by kernel_rfl) (by kernel_rfl) (fun _ _ _ h => h) (Or.inl ⟨by rfl, ?hy108⟩) hH ?rest108
                        case hy108 => (intro w hSw; (try dsimp only at hSw); go_simp; try with_reducible rfl)
                        try simp only [Act.put, List.setIfInBounds_toArray, List.set_cons_zero, List.set_cons_succ, List.getElem_toArray, List.getElem_cons_zero, List.getElem_cons_succ]
                        refine wpAnyH_take (i := 22) (v := ?v109) rfl (by kernel_rfl) (by kernel_rfl) (by kernel_rfl) (fun _ _ _ h => h) (Or.inl ⟨by rfl, ?hy109⟩) hH ?rest109
                        case hy109 => (intro w hSw; (try dsimp only at hSw); go_simp; try with_reducible rfl)
                        try simp only [Act.put, List.setIfInBounds_toArray, List.set_cons_zero, List.set_cons_succ, List.getElem_toArray, List.getElem_cons_zero, List.getElem_cons_succ]
                        refine wpAnyH_take (i := 23) (v := ?v110) rfl (by kernel_rfl) (by kernel_rfl) (by kernel_rfl) (fun _ _ _ h => h) (Or.inl ⟨by rfl, ?hy110⟩) hH ?rest110
                        case hy110 => (intro w hSw; (try dsimp only at hSw); go_simp; try with_reducible rfl)
                        try simp only [Act.put, List.setIfInBounds_toArray, List.set_cons_zero, List.set_cons_succ, List.getElem_toArray, List.getElem_cons_zero, List.getElem_cons_succ]
                        refine wpAnyH_take (i := 24) (v := ?v111) rfl (by kernel_rfl) (by kernel_rfl) (by kernel_rfl) (fun _ _ _ h => h) (Or.inl ⟨by rfl, ?hy111⟩) hH ?rest111
                        case hy111 => (intro w hSw; (try dsimp only at hSw); go_simp; try with_reducible rfl)
                        try simp only [Act.put, List.setIfInBounds_toArray, List.set_cons_zero, List.set_cons_succ, List.getElem_toArray, List.getElem_cons_zero, List.getElem_cons_succ]
                        refine wpAnyH_take (i := 25) (v := ?v112) rfl (by kernel_rfl) (by kernel_rfl) (by kernel_rfl) (fun _ _ _ h => h) (Or.inl ⟨by rfl, ?hy112⟩) hH ?rest112
                        case hy112 => (intro w hSw; (try dsimp only at hSw); go_simp; try with_reducible rfl)
                        try simp only [Act.put, List.setIfInBounds_toArray, List.set_cons_zero, List.set_cons_succ, List.getElem_toArray, List.getElem_cons_zero, List.getElem_cons_succ]
                        refine wpAnyH_take (i := 26) (v := ?v113) rfl (by kernel_rfl) (by kernel_rfl) (by kernel_rfl) (fun _ _ _ h => h) (Or.inl ⟨by rfl, ?hy113⟩) hH ?rest113
                        case hy113 => (intro w hSw; (try dsimp only at hSw); go_simp; try with_reducible rfl)
                        try simp only [Act.put, List.setIfInBounds_toArray, List.set_cons_zero, List.set_cons_succ, List.getElem_toArray, List.getElem_cons_zero, List.getElem_cons_succ]
                        refine wpAnyH_take (i := 27) (v := ?v114) rfl (by kernel_rfl) (by kernel_rfl) (by kernel_rfl) (fun _ _ _ h => h) (Or.inl ⟨by rfl, ?hy114⟩) hH ?rest114
                        case hy114 => (intro w hSw; (try dsimp only at hSw); obtain ⟨f0, f1, f2, f3⟩ := SB.out w hSw; go_simp; try with_reducible rfl)
                        try simp only [Act.put, List.setIfInBounds_toArray, List.set_cons_zero, List.set_cons_succ, List.getElem_toArray, List.getElem_cons_zero, List.getElem_cons_succ]
                        refine wpAnyH_ready (rs := [28]) (by kernel_rfl) (by simp) ?_
                        refine AllReadyH.cons rfl (fun K hK => ?_) AllReadyH.nil
                        go_simp
                        go_at_call 18
                        with_reducible refine (HQ _ hH).out.mono ?_
                        rintro e wq115 ⟨zn115, rfl, bq115⟩
                        have hzn115 : decide ((zn115 : Int) < 0) = false := decide_eq_false (by omega)
                        go_wp2_with fail
                        refine hK.out _ _ (hH.trans (bq115.mono hH.size)) (fun hH2 => ?_)
                        clear hK K hH
                        have hH := hH2
                        clear hH2
                        try simp only [Act.put, List.setIfInBounds_toArray, List.set_cons_zero, List.set_cons_succ, List.getElem_toArray, List.getElem_cons_zero, List.getElem_cons_succ]
                        refine wpAnyH_take (i := 29) (v := ?v116) rfl (by kernel_rfl) (by kernel_rfl) (by kernel_rfl) (fun _ _ _ h => h) (Or.inl ⟨by rfl, ?hy116⟩) hH ?rest116
                        case hy116 => (intro w hSw; (try dsimp only at hSw); go_simp; try with_reducible rfl)
                        try simp only [Act.put, List.setIfInBounds_toArray, List.set_cons_zero, List.set_cons_succ, List.getElem_toArray, List.getElem_cons_zero, List.getElem_cons_succ]
                        refine wpAnyH_take (i := 30) (v := ?v117) rfl (by kernel_rfl) (by kernel_rfl) (by kernel_rfl) (fun _ _ _ h => h) (Or.inl ⟨by rfl, ?hy117⟩) hH ?rest117
                        case hy117 => (intro w hSw; (try dsimp only at hSw); go_simp; try with_reducible rfl)
                        try simp only [Act.put, List.setIfInBounds_toArray, List.set_cons_zero, List.set_cons_succ, List.getElem_toArray, List.getElem_cons_zero, List.getElem_cons_succ]
                        refine wpAnyH_done (by kernel_rfl) ?_ _
                        clear HP HQ
                        have HB8 := Lib.hid (hB.out.trans (hH.mono hB.out.size))
                        clear HW SB BD hB hH
                        go_wp2
                        go_roundg (l.length - (j + 1))
                        case measure => omega
                        case rel => exact ⟨j + 1, by omega, by go_num, HB8.out⟩
                  · obtain rfl : j = l.length := by omega
                    go_wp2
                    go_roundg (l.length - (k + 1))
                    case measure => omega
                    case rel => exact ⟨k + 1, by omega, by go_num, hB.out⟩
        · obtain rfl : k = l.length := by omega
          have HBX := Lib.hid (HB4.out.trans (hB.out.mono HB4.out.size))
          go_wp2
          go_ret
          exact ⟨rfl, HBX.out⟩
theorem lwaits_any (A : Option Addr) (c : Nat) (l : List No) (hc : l.length ≤ c) (Ad : Option Addr) (cd : Nat) (D : List Is) (hf : Wf l) (hW : Wd D) (w : World) (hs : Nl w w.heap.size A l) (hd : Dl w w.heap.size l) (hi : Il w w.heap.size Ad D) :
    Calls Tryz.prog 4 #[.slice A l.length c, .slice Ad D.length cd] w (UpPost w) := by
  by_cases hfw : fw l = true
  · have h1 := fw_iff.1 hfw
    by_cases hD : D.length ≤ 100
    · exact lwaits_core A c l h1.1 h1.2 hc Ad cd D hD hf hW w hs hd hi
    · have d2 : decide ((100 : Int) < (D.length : Int)) = true := decide_eq_true (by omega)
      have HAw := Lib.hid (awake_any w)
      have HFw := fun W h => Lib.hid (Few_any A c l W h)
      rw [hfw] at HFw
      clear hfw h1 hf hW hd hi
      go_enter Tryz.func4, Tryz.ntmps4
      go_wp2_with fail
      refine HAw.out.mono ?_
      rintro e w1 ⟨rfl, B1⟩
      have HFw1 := HFw w1 (hs.to B1 B1.size)
      go_wp2_with fail
      refine HFw1.out.mono ?_
      rintro e w2 ⟨rfl, rfl⟩
      go_wp2
      go_ret
      exact ⟨rfl, B1⟩
  · have hfw' : fw l = false := by simpa using hfw
    have HAw := Lib.hid (awake_any w)
    have HFw := fun W h => Lib.hid (Few_any A c l W h)
    rw [hfw'] at HFw
    clear hfw hfw' hf hW hd hi
    go_enter Tryz.func4, Tryz.ntmps4
    go_wp2_with fail
    refine HAw.out.mono ?_
    rintro e w1 ⟨rfl, B1⟩
    have HFw1 := HFw w1 (hs.to B1 B1.size)
    go_wp2_with fail
    refine HFw1.out.mono ?_
    rintro e w2 ⟨rfl, rfl⟩
    go_wp2
    go_ret
    exact ⟨rfl, B1⟩
end Go.Proofs.YtgpciipemgljcaaGreat.Od

/-
  Inserting a node into nodes that are sorted, plain; the heads and tails of slices of nodes. No program's function is walked here. No conditions.
-/
namespace Go.Proofs.YtgpciipemgljcaaGreat.Od
open Go.RowKit
set_option linter.unusedVariables false

theorem ls_trans {x y z : No} (h : ls x y = true) (k : ls y z = true) : ls x z = true := by
  rw [ls_iff] at *
  unfold il at *
  omega
/-- Nodes as Less has them, and all of some. -/
structure Sd (o p : List No) : Prop where
  s : o.Pairwise fun x y => ls y x = false
  p : o.Perm p
theorem Sd.nil : Sd [] [] := ⟨List.Pairwise.nil, List.Perm.refl _⟩
theorem Sd.ins {o p : List No} {x : No} {k : Nat} (h : Sd o p) (hk : k ≤ o.length) (hb : ∀ j y, j < k → o[j]? = some y → ls x y = false) (ha : k = o.length ∨ ∃ y, o[k]? = some y ∧ ls x y = true) : Sd (o.take k ++ [x] ++ o.drop k) (p ++ [x]) := by
  have hs : (o.take k ++ o.drop k).Pairwise fun x y => ls y x = false := by rw [List.take_append_drop]; exact h.s
  rw [List.pairwise_append] at hs
  refine ⟨?_, ?_⟩
  · rw [List.append_assoc, List.pairwise_append]
    refine ⟨hs.1, ?_, fun a hA b hB => ?_⟩
    · rw [List.singleton_append, List.pairwise_cons]
      refine ⟨fun b hB => ?_, hs.2.1⟩
      rcases ha with rfl | ⟨y, hy, hl⟩
      · rw [List.drop_length] at hB; cases hB
      · obtain ⟨hk', rfl⟩ := List.getElem?_eq_some_iff.1 hy
        rw [List.drop_eq_getElem_cons hk'] at hB hs
        rcases List.mem_cons.1 hB with rfl | hB
        · exact ls_asym hl
        · have h1 := (List.pairwise_cons.1 hs.2.1).1 b hB
          rcases hbx : ls b x with _ | _
          · rfl
          · rw [ls_trans hbx hl] at h1; cases h1
    · rw [List.singleton_append] at hB
      rcases List.mem_cons.1 hB with rfl | hB
      · obtain ⟨j, hj⟩ := List.getElem?_of_mem hA
        have hjk : j < k := by
          have := (List.getElem?_eq_some_iff.1 hj).1
          simp at this; omega
        rw [List.getElem?_take_of_lt hjk] at hj
        exact hb j a hjk hj
      · exact hs.2.2 a hA b hB
  · have h1 : (o.take k ++ [x] ++ o.drop k).Perm (o.take k ++ o.drop k ++ [x]) := by
      rw [List.append_assoc, List.append_assoc]
      exact List.Perm.append_left _ (List.perm_append_comm)
    rw [List.take_append_drop] at h1
    exact h1.trans (List.Perm.append_right _ h.p)

/-- 's[:k]' and 's[k:]' of nodes. -/
theorem Nl.take {w : World} {B : Nat} {A : Option Addr} {l : List No} (h : Nl w B A l) (n : Nat) : Nl w B A (l.take n) := by
  rcases h with rfl | ⟨b, off, hA, hb, hc⟩
  · exact .inl (by simp)
  · refine .inr ⟨b, off, hA, hb, fun j x hx => hc j x ?_⟩
    rcases Nat.lt_or_ge j n with h | h
    · rwa [List.getElem?_take_of_lt h] at hx
    · rw [List.getElem?_take_eq_none h] at hx; cases hx
theorem Nl.drop {w : World} {B b off : Nat} {l : List No} (h : Nl w B (some ⟨b, off, none⟩) l) (n : Nat) : Nl w B (some ⟨b, off + n * 4, none⟩) (l.drop n) := by
  rcases h with rfl | ⟨b', off', hA, hb, hc⟩
  · exact .inl (by simp)
  · simp only [Option.some.injEq, Addr.mk.injEq, and_true] at hA
    obtain ⟨rfl, rfl⟩ := hA
    refine .inr ⟨b, _, rfl, hb, fun j x hx => ?_⟩
    rw [List.getElem?_drop] at hx
    have := hc _ _ hx
    rw [show off + n * 4 + j * 4 = off + (n + j) * 4 by omega]
    exact this
theorem head_runN {w : World} {B : Nat} {A : Option Addr} {l : List No} (h : Nl w B A l) (c k : Nat) (hk : k ≤ l.length) (hc : l.length ≤ c) :
    ∃ A', (∀ W, (Instr.sliceAt 22 (.slice A l.length c) none (some (.int .i64 (k : Int))) none).run Tryz.prog W = .ok (.slice A' (l.take k).length c) W) ∧
      (∀ W, (Instr.slice 22 (.slice A l.length c) none (some (.int .i64 (k : Int))) none).run Tryz.prog W = .ok (.slice A' (l.take k).length c) W) ∧ Nl w B A' (l.take k) := by
  have eu : Tryz.prog.underlying 22 = some (.slice (Tryz.prog.elem 22)) := by kernel_rfl
  have h2 : ∀ W, (Instr.slice 22 (.slice A l.length c) none (some (.int .i64 (k : Int))) none).run Tryz.prog W = .ok (.slice (if c = 0 then A else A.map (·.add (0 * 4))) (l.take k).length c) W := fun W => by
    rw [run_slice_h W 22 A l.length c eu .i64 k (by omega) (by omega), elem_size22]
    simp [sliced]
    omega
  refine ⟨if c = 0 then A else A.map (·.add (0 * 4)), fun W => by rw [run_sliceAt_slice W 22 _ _ _ _ eu]; exact h2 W, h2, ?_⟩
  rcases h with rfl | ⟨b, off, rfl, hb, hcc⟩
  · simp; exact .nil
  · have h3 : Nl w B (some ⟨b, off, none⟩) l := .inr ⟨b, off, rfl, hb, hcc⟩
    have e : (if c = 0 then (some ⟨b, off, none⟩ : Option Addr) else (some ⟨b, off, none⟩ : Option Addr).map (·.add (0 * 4))) = some ⟨b, off, none⟩ := by
      split <;> simp [Addr.add]
    rw [e]
    exact h3.take k
theorem tail_runN {w : World} {B : Nat} {A : Option Addr} {l : List No} (h : Nl w B A l) (c k : Nat) (hk : k ≤ l.length) (hc : l.length ≤ c) :
    ∃ A', (∀ W, (Instr.sliceAt 22 (.slice A l.length c) (some (.int .i64 (k : Int))) none none).run Tryz.prog W = .ok (.slice A' (l.drop k).length (c - k)) W) ∧
      (∀ W, (Instr.slice 22 (.slice A l.length c) (some (.int .i64 (k : Int))) none none).run Tryz.prog W = .ok (.slice A' (l.drop k).length (c - k)) W) ∧ Nl w B A' (l.drop k) := by
  have eu : Tryz.prog.underlying 22 = some (.slice (Tryz.prog.elem 22)) := by kernel_rfl
  have h2 : ∀ W, (Instr.slice 22 (.slice A l.length c) (some (.int .i64 (k : Int))) none none).run Tryz.prog W = .ok (.slice (if c = k then A else A.map (·.add (k * 4))) (l.drop k).length (c - k)) W := fun W => by
    rw [run_slice_l W 22 A l.length c eu .i64 k (by omega) (by omega), elem_size22]
    simp [sliced]
  refine ⟨if c = k then A else A.map (·.add (k * 4)), fun W => by rw [run_sliceAt_slice W 22 _ _ _ _ eu]; exact h2 W, h2, ?_⟩
  by_cases e : c = k
  · have : l.drop k = [] := List.drop_eq_nil_of_le (by omega)
    rw [this]; exact .nil
  · rw [if_neg e]
    rcases h with rfl | ⟨b, off, rfl, hb, hcc⟩
    · simp; exact .nil
    · have h3 : Nl w B (some ⟨b, off, none⟩) l := .inr ⟨b, off, rfl, hb, hcc⟩
      simp only [Option.map_some, Addr.add_lit]
      exact h3.drop k
end Go.Proofs.YtgpciipemgljcaaGreat.Od

/-
  The walk of the document's sorted. Conditions: at most 100 nodes, of different instances.
-/
namespace Go.Proofs.YtgpciipemgljcaaGreat.Od
open Go.RowKit
set_option linter.unusedVariables false

set_option maxRecDepth 100000 in
set_option maxHeartbeats 4000000 in
theorem rsorted_any (A : Option Addr) (c : Nat) (l : List No) (hl : l.length ≤ 100) (hds : Ds l) (w : World) (hs : Nl w w.heap.size A l) :
    Calls Tryz.prog 35 #[.slice A l.length c] w (NlPost w (so l)) := by
  obtain ⟨i0, hi0, hz0, hz1, hz2⟩ := info_parts info30
  have HS := Lib.hid hs
  have HSo : Hid (∀ o, Sd o l → o = so l) := fun o h => so_one hds h.p h.s
  generalize so l = res at *
  clear hs hds
  go_enter Tryz.func35, Tryz.ntmps35
  go_wp2
  go_loopg [3, 4] l.length (fun q v t W => ∃ k : Nat, ∃ o : List No, k + q = l.length ∧ t = .int .i64 (k : Int) ∧ Hid (Sd o (l.take k)) ∧ Hid (W.ownsRow w.heap.size 30 4 v o.length (ncs o)) ∧ Hid (Below w.heap.size w W))
  case atStart => exact ⟨0, [], by omega, rfl, Sd.nil, World.ownsRow_nil _ _ _ _, Below.refl _ _⟩
  case round =>
    obtain ⟨k, o, hk, rfl, hSd, hrow, hB⟩ := hrel
    by_cases hlt : k < l.length
    · have hki : (k : Int) < (l.length : Int) := by omega
      have hk0 : (0 : Int) ≤ (k : Int) := by omega
      have HX := Lib.hid (List.getElem?_eq_getElem hlt)
      have HT : Hid (l.take (k + 1) = l.take k ++ [l[k]]) := (List.take_append_getElem hlt).symm
      have hol : o.length ≤ 100 := by rw [hSd.out.p.length_eq, List.length_take]; omega
      obtain ⟨Ao, co, rfl, hNo, -⟩ := own_nl hrow.out
      have hco := own_cap hrow.out
      have HNo := Lib.hid hNo
      generalize l[k] = x at *
      obtain ⟨V, hV⟩ : ∃ V, V = wr := ⟨_, rfl⟩
      subst hV
      clear hNo
      go_wp2
      go_loopg [5] o.length (fun q t W => ∃ j : Nat, j + q = o.length ∧ t = .int .i64 (j : Int) ∧ Hid (∀ i y, i < j → o[i]? = some y → ls x y = false) ∧ Hid (Below V.heap.size V W))
      case atStart => exact ⟨0, by omega, rfl, fun i y h => by omega, Below.refl _ _⟩
      case round =>
        obtain ⟨j, hj, rfl, hno, hB2⟩ := hrel
        have hVw : w.heap.size ≤ V.heap.size := hB.out.size
        have HBr := Lib.hid (hB.out.trans (hB2.out.mono hVw))
        have hjo : j ≤ o.length := by omega
        have HFin : Hid ((j = o.length ∨ ∃ y, o[j]? = some y ∧ ls x y = true) → Sd (o.take j ++ [x] ++ o.drop j) (l.take (k + 1))) := fun ha => by rw [HT.out]; exact hSd.out.ins hjo hno.out ha
        by_cases hjt : j < o.length
        · have hji : (j : Int) < (o.length : Int) := by omega
          have hj0 : (0 : Int) ≤ (j : Int) := by omega
          have HY := Lib.hid (List.getElem?_eq_getElem hjt)
          obtain ⟨b, off, rfl, hb, p0, p1, p2, p3⟩ := (HS.out.below HBr.out (Nat.le_refl _)).at_ HX.out
          obtain ⟨b4, off4, rfl, hb4, q0, q1, q2, q3⟩ := (HNo.out.below hB2.out (Nat.le_refl _)).at_ HY.out
          have hbl : b < wr.heap.size := Nat.lt_of_lt_of_le hb HBr.out.size
          have hbl4 : b4 < wr.heap.size := Nat.lt_of_lt_of_le hb4 hB2.out.size
          have HNN : Hid (ls x o[j] = false → ∀ i y, i < j + 1 → o[i]? = some y → ls x y = false) := fun e i y hi hy => by
            rcases Nat.lt_or_ge i j with h | h
            · exact hno.out i y h hy
            · obtain rfl : i = j := by omega
              rw [List.getElem?_eq_getElem hjt] at hy
              cases hy
              exact e
          have HC0 : ∀ W, Hid (Calls Tryz.prog 17 #[nv x, nv o[j]] W (BoolPost W (ls x o[j]))) := fun W => rLess_any x o[j] W
          have HYes : Hid (ls x o[j] = true → Sd (o.take j ++ [x] ++ o.drop j) (l.take (k + 1))) := fun e => HFin.out (.inr ⟨_, List.getElem?_eq_getElem hjt, e⟩)
          generalize ls x o[j] = r at *
          generalize o[j] = y at *
          obtain ⟨xb, xs, xq, xd, xh, xc⟩ := x
          obtain ⟨yb, ys, yq, yd, yh, yc⟩ := y
          simp only [nv] at *
          have KS : Hid (∀ v v', Below v.heap.size v v' → (v.cell? ⟨b, off + k * 4, none⟩ = some (.int .i64 xb) ∧ v.cell? ⟨b, off + k * 4 + 1, none⟩ = some (.int .i64 xs) ∧ v.cell? ⟨b, off + k * 4 + 2, none⟩ = some (.int .i64 xq) ∧ v.cell? ⟨b, off + k * 4 + 3, none⟩ = some (.slice xh xd.length xc) ∧ v.cell? ⟨b4, off4 + j * 4, none⟩ = some (.int .i64 yb) ∧ v.cell? ⟨b4, off4 + j * 4 + 1, none⟩ = some (.int .i64 ys) ∧ v.cell? ⟨b4, off4 + j * 4 + 2, none⟩ = some (.int .i64 yq) ∧ v.cell? ⟨b4, off4 + j * 4 + 3, none⟩ = some (.slice yh yd.length yc) ∧ Below wr.heap.size wr v) → (v'.cell? ⟨b, off + k * 4, none⟩ = some (.int .i64 xb) ∧ v'.cell? ⟨b, off + k * 4 + 1, none⟩ = some (.int .i64 xs) ∧ v'.cell? ⟨b, off + k * 4 + 2, none⟩ = some (.int .i64 xq) ∧ v'.cell? ⟨b, off + k * 4 + 3, none⟩ = some (.slice xh xd.length xc) ∧ v'.cell? ⟨b4, off4 + j * 4, none⟩ = some (.int .i64 yb) ∧ v'.cell? ⟨b4, off4 + j * 4 + 1, none⟩ = some (.int .i64 ys) ∧ v'.cell? ⟨b4, off4 + j * 4 + 2, none⟩ = some (.int .i64 yq) ∧ v'.cell? ⟨b4, off4 + j * 4 + 3, none⟩ = some (.slice yh yd.length yc) ∧ Below wr.heap.size wr v')) := fun v v' hb' hS => by
            obtain ⟨h0, h1, h2, h3, h4, h5, h6, h7, hB'⟩ := hS
            have hc : ∀ b j, b < wr.heap.size → v'.cell? ⟨b, j, none⟩ = v.cell? ⟨b, j, none⟩ := fun b j hbb => World.cell?_of_block (hb'.block b (Nat.lt_of_lt_of_le hbb hB'.size))
            exact ⟨(hc _ _ hbl).trans h0, (hc _ _ hbl).trans h1, (hc _ _ hbl).trans h2, (hc _ _ hbl).trans h3, (hc _ _ hbl4).trans h4, (hc _ _ hbl4).trans h5, (hc _ _ hbl4).trans h6, (hc _ _ hbl4).trans h7, hB'.trans (hb'.mono hB'.size)⟩
          have S0 : wr.cell? ⟨b, off + k * 4, none⟩ = some (.int .i64 xb) ∧ wr.cell? ⟨b, off + k * 4 + 1, none⟩ = some (.int .i64 xs) ∧ wr.cell? ⟨b, off + k * 4 + 2, none⟩ = some (.int .i64 xq) ∧ wr.cell? ⟨b, off + k * 4 + 3, none⟩ = some (.slice xh xd.length xc) ∧ wr.cell? ⟨b4, off4 + j * 4, none⟩ = some (.int .i64 yb) ∧ wr.cell? ⟨b4, off4 + j * 4 + 1, none⟩ = some (.int .i64 ys) ∧ wr.cell? ⟨b4, off4 + j * 4 + 2, none⟩ = some (.int .i64 yq) ∧ wr.cell? ⟨b4, off4 + j * 4 + 3, none⟩ = some (.slice yh yd.length yc) ∧ Below wr.heap.size wr wr := ⟨p0, p1, p2, p3, q0, q1, q2, q3, Below.refl _ _⟩
          have KD := Lib.hid (fun v hS => KS.out v v.drew (Below.refl _ _).drew hS)
          go_wp2_with fail
          go_region_held3 (fun v => v.cell? ⟨b, off + k * 4, none⟩ = some (.int .i64 xb) ∧ v.cell? ⟨b, off + k * 4 + 1, none⟩ = some (.int .i64 xs) ∧ v.cell? ⟨b, off + k * 4 + 2, none⟩ = some (.int .i64 xq) ∧ v.cell? ⟨b, off + k * 4 + 3, none⟩ = some (.slice xh xd.length xc) ∧ v.cell? ⟨b4, off4 + j * 4, none⟩ = some (.int .i64 yb) ∧ v.cell? ⟨b4, off4 + j * 4 + 1, none⟩ = some (.int .i64 ys) ∧ v.cell? ⟨b4, off4 + j * 4 + 2, none⟩ = some (.int .i64 yq) ∧ v.cell? ⟨b4, off4 + j * 4 + 3, none⟩ = some (.slice yh yd.length yc) ∧ Below wr.heap.size wr v)
            (first | (exact S0) | assumption | (exact KD.out _ S0) | (refine KS.out _ _ hb1 ?_; first | assumption | exact KD.out _ S0) | (refine KD.out _ ?_; assumption))
            (first | (go_at_call 17; (with_reducible refine (HC0 _).out.mono ?_); rintro e w5 ⟨rfl, hb1⟩))
          rename_i hSx
          have HB5 := Lib.hid (hB2.out.trans (hSx.2.2.2.2.2.2.2.2.mono hB2.out.size))
          clear KS KD S0 HC0 hSx hb1
          rcases r with _ | _
          · have HN2 := Lib.hid (HNN.out rfl)
            go_wp2
            go_roundg (o.length - (j + 1))
            case measure => omega
            case rel => exact ⟨j + 1, by omega, by go_num, HN2.out, HB5.out⟩
          · have HS2 := Lib.hid (HYes.out rfl)
            have HSW : Hid (Nl w5 w5.heap.size _ l) := HS.out.to (hB.out.trans (HB5.out.mono hVw)) (Nat.le_trans hVw HB5.out.size)
            have HNW := Lib.hid (HNo.out.to HB5.out HB5.out.size)
            obtain ⟨Ah, h1, h2, hNh⟩ := head_runN HNW.out co j hjo hco
            obtain ⟨Atl, t1, t2, hNt⟩ := tail_runN HNW.out co j hjo hco
            have hVW : V.heap.size ≤ w5.heap.size := HB5.out.size
            have htl : (o.take j).length ≤ 100 := by simp; omega
            have hdl : (o.drop j).length ≤ 100 := by simp; omega
            have HBw := Lib.hid (hB.out.trans (HB5.out.mono hVw))
            clear HNW
            go_wp2_with (first
              | (at_builtin; refine wpList_app4 rfl (.const (.slice none 0 0)) (.tmp 32) rfl (.slice none 0 0) rfl [] w5.heap.size (World.ownsRow_nil _ _ _ _) Ah j co rfl (o.take j) (by simp; omega) w5.heap.size hNh (by simp; omega) (Nat.le_refl _) ?_; intro v1 w6 own6 grow6; have B6 := (Below.refl w5.heap.size w5).grown grow6 (Nat.le_refl _) (fun r e => by cases e); obtain ⟨bx, offx, ex, hbx, p0, p1, p2, p3⟩ := (HSW.out.below B6 (Nat.le_refl _)).at_ HX.out; cases ex)
              | (at_builtin; have H10 := own6.alloc (.cells #[.int .i64 xb, .int .i64 xs, .int .i64 xq, .slice xh xd.length xc] 30); refine wpList_append_own_at _ rfl _ _ 22 rfl w5.heap.size 30 i0 (.agg #[.int .i64 0, .int .i64 0, .int .i64 0, .slice none 0 0]) 4 48 Tryz.underlying22 hi0 hz0 hz1 hz2 rfl (by decide) v1 ([] ++ o.take j).length (ncs ([] ++ o.take j)) rfl H10 ⟨w6.heap.size, 0, none⟩ 1 1 [.int .i64 xb, .int .i64 xs, .int .i64 xq, .slice xh xd.length xc] rfl rfl (cell_four_new _ _ _ _ _ _) (by simp [Value.oneCell']) (by unfold maxLen; simp; omega) (by simp; omega) (by have := B6.size; simp; omega) ?_; intro v2 w7 own7 grow7 hx7 hat7; have B7 := (B6.alloc B6.size (.cells #[.int .i64 xb, .int .i64 xs, .int .i64 xq, .slice xh xd.length xc] 30)).grown grow7 (by have := B6.size; simp; omega) (fun r e => (H10.lt r e).1); have H11 : w7.ownsRow w5.heap.size 30 4 v2 (o.take j ++ [(⟨xb, xs, xq, xd, xh, xc⟩ : No)]).length (ncs (o.take j ++ [(⟨xb, xs, xq, xd, xh, xc⟩ : No)])) := (by rw [List.length_append, ncs_append]; exact own7))
              | (at_builtin; refine wpList_app4 rfl (.tmp 41) (.tmp 44) rfl v2 rfl (o.take j ++ [(⟨xb, xs, xq, xd, xh, xc⟩ : No)]) w5.heap.size H11 Atl (o.length - j) (co - j) rfl (o.drop j) (by simp) w5.heap.size (hNt.below B7 (Nat.le_refl _)) (by simp; omega) B7.size ?_; intro v3 w8 own8 grow8; have B8 := B7.grown grow8 B7.size (fun r e => (H11.lt r e).1)))
            have HO8 := Lib.hid (own8.mono (Nat.le_trans hVw hVW))
            have HB8 := Lib.hid (HBw.out.trans (B8.mono (Nat.le_trans hVw hVW)))
            clear own8 grow8 B8 H11 own7 grow7 B7 own6 grow6 B6
            go_wp2
            go_roundg (l.length - (k + 1))
            case measure => omega
            case rel => exact ⟨k + 1, _, by omega, by go_num, HS2.out, HO8.out, HB8.out⟩
        · obtain rfl : j = o.length := by omega
          have HS2 := Lib.hid (HFin.out (.inl rfl))
          obtain ⟨xb, xs, xq, xd, xh, xc⟩ := x
          simp only at *
          have HSW : Hid (Nl wr wr.heap.size _ l) := HS.out.to (hB.out.trans (hB2.out.mono hVw)) (Nat.le_trans hVw hB2.out.size)
          have HNW := Lib.hid (HNo.out.to hB2.out hB2.out.size)
          obtain ⟨Ah, h1, h2, hNh⟩ := head_runN HNW.out co o.length hjo hco
          obtain ⟨Atl, t1, t2, hNt⟩ := tail_runN HNW.out co o.length hjo hco
          have hVW : V.heap.size ≤ wr.heap.size := hB2.out.size
          have htl : (o.take o.length).length ≤ 100 := by simp; omega
          have hdl : (o.drop o.length).length ≤ 100 := by simp
          have HBw := Lib.hid (hB.out.trans (hB2.out.mono hVw))
          clear HNW
          go_wp2_with (first
            | (at_builtin; refine wpList_app4 rfl (.const (.slice none 0 0)) (.tmp 32) rfl (.slice none 0 0) rfl [] wr.heap.size (World.ownsRow_nil _ _ _ _) Ah o.length co rfl (o.take o.length) (by simp) wr.heap.size hNh (by simp; omega) (Nat.le_refl _) ?_; intro v1 w6 own6 grow6; have B6 := (Below.refl wr.heap.size wr).grown grow6 (Nat.le_refl _) (fun r e => by cases e); obtain ⟨bx, offx, ex, hbx, p0, p1, p2, p3⟩ := (HSW.out.below B6 (Nat.le_refl _)).at_ HX.out; cases ex)
            | (at_builtin; have H10 := own6.alloc (.cells #[.int .i64 xb, .int .i64 xs, .int .i64 xq, .slice xh xd.length xc] 30); refine wpList_append_own_at _ rfl _ _ 22 rfl wr.heap.size 30 i0 (.agg #[.int .i64 0, .int .i64 0, .int .i64 0, .slice none 0 0]) 4 48 Tryz.underlying22 hi0 hz0 hz1 hz2 rfl (by decide) v1 ([] ++ o.take o.length).length (ncs ([] ++ o.take o.length)) rfl H10 ⟨w6.heap.size, 0, none⟩ 1 1 [.int .i64 xb, .int .i64 xs, .int .i64 xq, .slice xh xd.length xc] rfl rfl (cell_four_new _ _ _ _ _ _) (by simp [Value.oneCell']) (by unfold maxLen; simp; omega) (by simp; omega) (by have := B6.size; simp; omega) ?_; intro v2 w7 own7 grow7 hx7 hat7; have B7 := (B6.alloc B6.size (.cells #[.int .i64 xb, .int .i64 xs, .int .i64 xq, .slice xh xd.length xc] 30)).grown grow7 (by have := B6.size; simp; omega) (fun r e => (H10.lt r e).1); have H11 : w7.ownsRow wr.heap.size 30 4 v2 (o.take o.length ++ [(⟨xb, xs, xq, xd, xh, xc⟩ : No)]).length (ncs (o.take o.length ++ [(⟨xb, xs, xq, xd, xh, xc⟩ : No)])) := (by rw [List.length_append, ncs_append]; exact own7))
            | (at_builtin; refine wpList_app4 rfl (.tmp 41) (.tmp 44) rfl v2 rfl (o.take o.length ++ [(⟨xb, xs, xq, xd, xh, xc⟩ : No)]) wr.heap.size H11 Atl 0 (co - o.length) rfl (o.drop o.length) (by simp) wr.heap.size (hNt.below B7 (Nat.le_refl _)) (by simp; omega) B7.size ?_; intro v3 w8 own8 grow8; have B8 := B7.grown grow8 B7.size (fun r e => (H11.lt r e).1)))
          have HO8 := Lib.hid (own8.mono (Nat.le_trans hVw hVW))
          have HB8 := Lib.hid (HBw.out.trans (B8.mono (Nat.le_trans hVw hVW)))
          clear own8 grow8 B8 H11 own7 grow7 B7 own6 grow6 B6
          go_wp2
          go_roundg (l.length - (k + 1))
          case measure => omega
          case rel => exact ⟨k + 1, _, by omega, by go_num, HS2.out, HO8.out, HB8.out⟩
    · obtain rfl : k = l.length := by omega
      rw [List.take_length] at hSd
      have HE := HSo.out o hSd.out
      have HX : Hid (wr.ownsRow w.heap.size 30 4 u3 res.length (ncs res)) := by
        show World.ownsRow _ _ _ _ _ _ _
        rw [← HE]
        exact hrow.out
      clear HE
      go_wp2
      go_ret
      exact ⟨_, rfl, HX.out, hB.out⟩
end Go.Proofs.YtgpciipemgljcaaGreat.Od

/-
  The walk of the document's Count. Conditions: at most 100 nodes, 1000 deps, 1000 that were done.
-/
namespace Go.Proofs.YtgpciipemgljcaaGreat.Od
open Go.RowKit
set_option linter.unusedVariables false
attribute [local go_sem ↓ high] eq25 guard25 neq25 guard25n

theorem fs_all {l : List No} {m : Nat} {x : Is} {n : No} (hl : l.length ≤ 100) (h : fs (l.take m) x = some n) : fs l x = some n := by
  unfold fs at *
  rw [List.take_of_length_le (by simp; omega)] at h
  rw [List.take_of_length_le hl]
  have e : l = l.take m ++ l.drop m := (List.take_append_drop m l).symm
  rw [e, List.find?_append, h]
  rfl
def cj (l : List No) (D : List Is) (k j : Nat) : List No := (axk k ++ axr k j).filterMap (ct l D)
theorem cj_row (l : List No) (D : List Is) (k : Nat) : cj l D (k + 1) 0 = cj l D k 60 := by unfold cj; rw [axk_succ, axr_zero, List.append_nil]
theorem cj_zero (l : List No) (D : List Is) : cj l D 0 0 = [] := rfl
theorem cj_all (l : List No) (D : List Is) : cj l D 7 0 = cs l D := by
  unfold cj cs ax
  rw [axr_zero, List.append_nil]
theorem cj_no {l : List No} {D : List Is} {k j : Nat} (h : ct l D ((k : Int) + 1, (j : Int) + 1) = none) : cj l D k (j + 1) = cj l D k j := by
  unfold cj
  rw [axr_succ, ← List.append_assoc, List.filterMap_append]
  simp [h]
theorem cj_yes {l : List No} {D : List Is} {k j : Nat} {n : No} (h : ct l D ((k : Int) + 1, (j : Int) + 1) = some n) : cj l D k (j + 1) = cj l D k j ++ [n] := by
  unfold cj
  rw [axr_succ, ← List.append_assoc, List.filterMap_append]
  simp [h]
theorem cj_len (l : List No) (D : List Is) (k j : Nat) : (cj l D k j).length ≤ k * 60 + j := by
  unfold cj
  refine Nat.le_trans (List.length_filterMap_le _ _) ?_
  rw [List.length_append]
  have h1 : ∀ k, (axk k).length = k * 60 := fun k => by
    induction k with
    | zero => rfl
    | succ k ih => rw [axk_succ, List.length_append, ih]; simp [axr]; omega
  rw [h1]
  simp [axr]

set_option maxRecDepth 100000 in
set_option maxHeartbeats 4000000 in
theorem Count_any (A : Option Addr) (c : Nat) (l : List No) (hl : l.length ≤ 100) (h7 : ∀ n ∈ l, n.d.length ≤ 1000) (Ad : Option Addr) (cd : Nat) (D : List Is) (hD : D.length ≤ 1000) (w : World) (hs : Nl w w.heap.size A l) (hd : Dl w w.heap.size l) (hi : Il w w.heap.size Ad D) :
    Calls Tryz.prog 21 #[.slice A l.length c, .slice Ad D.length cd] w (NlPost w (cs l D)) := by
  obtain ⟨i0, hi0, hz0, hz1, hz2⟩ := info_parts info30
  have HS := Lib.hid hs
  have HDl := Lib.hid hd
  have HDn := Lib.hid hi
  have H7 := Lib.hid h7
  have HCL : Hid (cj l D 7 0 = cs l D) := cj_all l D
  generalize cs l D = res at *
  clear hs hd hi h7
  go_enter Tryz.func21, Tryz.ntmps21
  go_wp2
  go_loopg [5, 6] 7 (fun q v t W => ∃ k : Nat, k + q = 7 ∧ t = .int .i64 ((k : Int) + 1) ∧ Hid (W.ownsRow w.heap.size 30 4 v (cj l D k 0).length (ncs (cj l D k 0))) ∧ Hid (Below w.heap.size w W))
  case atStart => exact ⟨0, by omega, rfl, World.ownsRow_nil _ _ _ _, Below.refl _ _⟩
  case round =>
    obtain ⟨k, hk, rfl, hrow, hB⟩ := hrel
    by_cases hlt : k < 7
    · have dk : decide (((k : Int) + 1) ≤ 7) = true := decide_eq_true (by omega)
      have hwk : IntKind.i64.wrap ((k : Int) + 1 + 1) = (k : Int) + 1 + 1 := IntWalk.i64_in _ (by omega)
      go_wp2
      go_loopg [5, 7] 60 (fun q v t W => ∃ j : Nat, j + q = 60 ∧ t = .int .i64 ((j : Int) + 1) ∧ Hid (W.ownsRow w.heap.size 30 4 v (cj l D k j).length (ncs (cj l D k j))) ∧ Hid (Below w.heap.size w W))
      case atStart => exact ⟨0, by omega, rfl, hrow.out, hB.out⟩
      case round =>
        clear hrow hB
        obtain ⟨j, hj, rfl, hrow, hB⟩ := hrel
        by_cases hjt : j < 60
        · have dj : decide (((j : Int) + 1) ≤ 60) = true := decide_eq_true (by omega)
          have hwj : IntKind.i64.wrap ((j : Int) + 1 + 1) = (j : Int) + 1 + 1 := IntWalk.i64_in _ (by omega)
          have hml2 := cj_len l D k j
          go_wp2
          go_loopg [5, 8] l.length (fun q v t W => ∃ i : Nat, i + q = l.length ∧ t = .int .i64 (i : Int) ∧ Hid (W.ownsRow w.heap.size 30 4 v (cj l D k j).length (ncs (cj l D k j))) ∧ Hid (fs (l.take i) ((k : Int) + 1, (j : Int) + 1) = none) ∧ Hid (Below w.heap.size w W))
          case atStart => exact ⟨0, by omega, rfl, hrow.out, by show fs _ _ = none; simp [fs], hB.out⟩
          case round =>
            clear hrow hB
            obtain ⟨i, hiq, rfl, hrow, hno, hB⟩ := hrel
            by_cases hit : i < l.length
            · have hii : (i : Int) < (l.length : Int) := by omega
              have hi00 : (0 : Int) ≤ (i : Int) := by omega
              have hi100 : (i : Int) < 100 := by omega
              have HN := Lib.hid (List.getElem?_eq_getElem hit)
              have HM := List.getElem_mem hit
              have HFS := Lib.hid (fs_step HN.out (by omega : i < 100) ((k : Int) + 1, (j : Int) + 1))
              have HNr := Lib.hid (rnear_any l[i] (H7.out _ HM) wr ((HDl.out _ HM).to hB.out hB.out.size))
              obtain ⟨gd, hgd⟩ : ∃ gd : Bool, gd = decide ((l[i]).i ∈ D) := ⟨_, rfl⟩
              have HG1 : Hid (gd = true → (l[i]).i ∈ D) := fun e => by rw [e] at hgd; exact of_decide_eq_true hgd.symm
              have HG2 : Hid (gd = false → (l[i]).i ∉ D) := fun e => by rw [e] at hgd; exact of_decide_eq_false hgd.symm
              have HHs : ∀ V, Below w.heap.size w V → Hid (Calls Tryz.prog 19 #[.slice Ad D.length cd, iv (l[i]).i] V (BoolPost V gd)) := fun V hV => has_any Ad cd D _ gd hgd hD V (HDn.out.to hV hV.size)
              clear hgd
              obtain ⟨b, off, rfl, hb, p0, p1, p2, p3⟩ := (HS.out.below hB.out (Nat.le_refl _)).at_ HN.out
              generalize l[i] = n at *
              obtain ⟨nb, ns, nq, nd, nh, nc⟩ := n
              simp only [nv, No.i, iv] at *
              by_cases he : (nb, ns) = ((k : Int) + 1, (j : Int) + 1)
              · have hq := same_yes he
                have HE := Lib.hid he
                generalize nr ⟨nb, ns, nq, nd, nh, nc⟩ = rn at *
                clear he
                go_wp2_with fail
                refine HNr.out.mono ?_
                rintro e w3 ⟨rfl, b3⟩
                have HB3 := Lib.hid (hB.out.trans (b3.mono hB.out.size))
                have HR3 := Lib.hid (ownk hrow.out b3)
                have HH3 := HHs w3 HB3.out
                obtain ⟨b', off', e', hb', p0, p1, p2, p3⟩ := (HS.out.below HB3.out (Nat.le_refl _)).at_ HN.out
                cases e'
                clear hrow hB HNr b3 HHs
                go_wp2_with fail
                refine HH3.out.mono ?_
                rintro e w4 ⟨rfl, b4⟩
                have HB4 := Lib.hid (HB3.out.trans (b4.mono HB3.out.size))
                have HR4 := Lib.hid (ownk HR3.out b4)
                obtain ⟨b', off', e', hb', p0, p1, p2, p3⟩ := (HS.out.below HB4.out (Nat.le_refl _)).at_ HN.out
                cases e'
                clear HR3 HB3 HH3 b4
                rcases rn with _ | _
                · have HF2 : Hid (fs (l.take (i + 1)) ((k : Int) + 1, (j : Int) + 1) = none) := HFS.out.trans (by rw [hno.out]; simp)
                  go_wp2
                  go_roundg (l.length - (i + 1))
                  case measure => omega
                  case rel => exact ⟨i + 1, by omega, by go_num, HR4.out, HF2.out, HB4.out⟩
                · have HF2 : Hid (fs l ((k : Int) + 1, (j : Int) + 1) = some ⟨nb, ns, nq, nd, nh, nc⟩) := fs_all hl (HFS.out.trans (by rw [hno.out]; simp [HE.out]))
                  rcases gd with _ | _
                  rotate_left
                  · have hmd := HG1.out rfl
                    have HC : Hid (cj l D k (j + 1) = cj l D k j) := cj_no (by
                      unfold ct
                      rw [if_pos (by rw [← HE.out]; exact hmd)])
                    clear hmd
                    go_wp2
                    go_roundg (60 - (j + 1))
                    case measure => omega
                    case rel => exact ⟨j + 1, by omega, by go_num, by rw [HC.out]; exact HR4.out, HB4.out⟩
                  · have hmd := HG2.out rfl
                    have HC : Hid (cj l D k (j + 1) = cj l D k j ++ [⟨nb, ns, nq, nd, nh, nc⟩]) := cj_yes (by
                      unfold ct
                      rw [if_neg (by rw [← HE.out]; exact hmd)]
                      exact HF2.out)
                    have H10 := Lib.hid (HR4.out.alloc (no ⟨nb, ns, nq, nd, nh, nc⟩))
                    have HB7 := Lib.hid (HB4.out.alloc HB4.out.size (no ⟨nb, ns, nq, nd, nh, nc⟩))
                    have hsz := HB4.out.size
                    have hml3 : (cj l D k j).length ≤ 1000 := by omega
                    simp only [no] at H10 HB7
                    clear hmd HR4 HB4
                    go_wp2_with (at_builtin; refine wpList_append_own_at _ rfl _ _ 22 rfl w.heap.size 30 i0 (.agg #[.int .i64 0, .int .i64 0, .int .i64 0, .slice none 0 0]) 4 48 Tryz.underlying22 hi0 hz0 hz1 hz2 rfl (by decide) _ (cj l D k j).length (ncs (cj l D k j)) rfl H10.out ⟨w4.heap.size, 0, none⟩ 1 1 [.int .i64 nb, .int .i64 ns, .int .i64 nq, .slice nh nd.length nc] rfl rfl (cell_four_new _ _ _ _ _ _) (by simp [Value.oneCell']) (by unfold maxLen; omega) (by omega) (by simp; omega) ?_; intro v' w9 hown9 hgrow9 _ hat9)
                    have HB9 := Lib.hid (HB7.out.grown hgrow9 HB7.out.size (fun r hr => (H10.out.lt r hr).1))
                    have H11 : Hid (w9.ownsRow w.heap.size 30 4 v' (cj l D k (j + 1)).length (ncs (cj l D k (j + 1)))) := by
                      show World.ownsRow _ _ _ _ _ _ _
                      rw [HC.out, List.length_append, ncs_append]
                      exact hown9
                    clear hown9 hgrow9 H10 HB7
                    go_wp2
                    go_roundg (60 - (j + 1))
                    case measure => omega
                    case rel => exact ⟨j + 1, by omega, by go_num, H11.out, HB9.out⟩
              · have hq := same_no he
                have HF2 : Hid (fs (l.take (i + 1)) ((k : Int) + 1, (j : Int) + 1) = none) := HFS.out.trans (by rw [hno.out]; simp [he])
                clear he HNr HHs
                go_wp2
                go_roundg (l.length - (i + 1))
                case measure => omega
                case rel => exact ⟨i + 1, by omega, by go_num, hrow.out, HF2.out, hB.out⟩
            · obtain rfl : i = l.length := by omega
              have HC : Hid (cj l D k (j + 1) = cj l D k j) := cj_no (by
                have := hno.out
                rw [List.take_length] at this
                unfold ct
                split
                · rfl
                · exact this)
              go_wp2
              go_roundg (60 - (j + 1))
              case measure => omega
              case rel => exact ⟨j + 1, by omega, by go_num, by rw [HC.out]; exact hrow.out, hB.out⟩
        · obtain rfl : j = 60 := by omega
          have HR5 : Hid (wr.ownsRow w.heap.size 30 4 u5 (cj l D (k + 1) 0).length (ncs (cj l D (k + 1) 0))) := by
            show World.ownsRow _ _ _ _ _ _ _
            rw [cj_row]
            exact hrow.out
          go_wp2
          go_roundg (7 - (k + 1))
          case measure => omega
          case rel => exact ⟨k + 1, by omega, by go_num, HR5.out, hB.out⟩
    · obtain rfl : k = 7 := by omega
      have HX : Hid (wr.ownsRow w.heap.size 30 4 u5 res.length (ncs res)) := by
        show World.ownsRow _ _ _ _ _ _ _
        rw [← HCL.out]
        exact hrow.out
      go_wp2
      go_ret
      exact ⟨_, rfl, HX.out, hB.out⟩
end Go.Proofs.YtgpciipemgljcaaGreat.Od

/-
  The walks of the document's insts and lacks. Conditions: at most 1000 nodes, instances.
-/
namespace Go.Proofs.YtgpciipemgljcaaGreat.Od
open Go.RowKit
set_option linter.unusedVariables false

theorem insts_any (A : Option Addr) (c : Nat) (l : List No) (hl : l.length ≤ 1000) (w : World) (hs : Nl w w.heap.size A l) : Calls Tryz.prog 34 #[.slice A l.length c] w (IsPost w (l.map No.i)) := by
  obtain ⟨i0, hi, hz0, hz1, hz2⟩ := info_parts info25
  have HS := Lib.hid hs
  have HR : Hid (∀ k, k = l.length → (l.take k).map No.i = l.map No.i) := fun k hk => by rw [hk, List.take_length]
  generalize l.map No.i = res at *
  clear hs
  go_enter Tryz.func34, Tryz.ntmps34
  go_wp2
  go_loopg [3, 4] l.length (fun q v t W => ∃ k : Nat, k + q = l.length ∧ t = .int .i64 (k : Int) ∧ Hid (W.ownsRow w.heap.size 25 2 v ((l.take k).map No.i).length (ics ((l.take k).map No.i))) ∧ Hid (Below w.heap.size w W))
  case atStart => exact ⟨0, by omega, rfl, World.ownsRow_nil _ _ _ _, Below.refl _ _⟩
  case round =>
    obtain ⟨k, hk, rfl, hown, hB⟩ := hrel
    by_cases hlt : k < l.length
    · have hki : (k : Int) < (l.length : Int) := by omega
      have hk0 : (0 : Int) ≤ (k : Int) := by omega
      have HX := Lib.hid (List.getElem?_eq_getElem hlt)
      have HT : Hid ((l.take (k + 1)).map No.i = (l.take k).map No.i ++ [(l[k]).i]) := by
        show _ = _
        rw [← List.take_append_getElem hlt, List.map_append]; rfl
      obtain ⟨b, off, rfl, hb, p0, p1, p2, p3⟩ := (HS.out.below hB.out (Nat.le_refl _)).at_ HX.out
      have hkl : ((l.take k).map No.i).length ≤ 1000 := by simp; omega
      generalize l[k] = x at *
      obtain ⟨xb, xs, xq, xd, xh, xc⟩ := x
      simp only at *
      have H10 := Lib.hid (hown.out.alloc (io (xb, xs)))
      have HB4 := Lib.hid (hB.out.alloc hB.out.size (io (xb, xs)))
      have hsz := hB.out.size
      simp only [io] at H10 HB4
      clear hown hB
      go_wp2_with (at_builtin; refine wpList_append_own_at _ rfl _ _ 23 rfl w.heap.size 25 i0 (.agg #[.int .i64 0, .int .i64 0]) 2 16 Tryz.underlying23 hi hz0 hz1 hz2 rfl (by decide) _ ((l.take k).map No.i).length (ics ((l.take k).map No.i)) rfl H10.out ⟨wr.heap.size, 0, none⟩ 1 1 [.int .i64 xb, .int .i64 xs] rfl rfl (cell_two_new _ _ _ _) (by simp [Value.oneCell']) (by unfold maxLen; omega) (by omega) (by simp; omega) ?_; intro v' w9 hown9 hgrow9 _ hat9)
      have HB9 := Lib.hid (HB4.out.grown hgrow9 HB4.out.size (fun r hr => (H10.out.lt r hr).1))
      have H11 : Hid (w9.ownsRow w.heap.size 25 2 v' ((l.take (k + 1)).map No.i).length (ics ((l.take (k + 1)).map No.i))) := by
        show World.ownsRow _ _ _ _ _ _ _
        rw [HT.out, List.length_append, ics_append]
        exact hown9
      clear hown9 hgrow9 H10 HB4
      go_wp2
      go_roundg (l.length - (k + 1))
      case measure => omega
      case rel => exact ⟨k + 1, by omega, by go_num, H11.out, HB9.out⟩
    · obtain rfl : k = l.length := by omega
      have HX : Hid (wr.ownsRow w.heap.size 25 2 u3 res.length (ics res)) := by
        show World.ownsRow _ _ _ _ _ _ _
        rw [← HR.out _ rfl]
        exact hown.out
      go_wp2
      go_ret
      exact ⟨_, rfl, HX.out, hB.out⟩

set_option maxHeartbeats 1000000 in
theorem rlacks_any (n : No) (A : Option Addr) (c : Nat) (l : List Is) (hl : l.length ≤ 1000) (hf : Wd l) (w : World) (hs : Il w w.heap.size A l) (hd : At.Sl w w.heap.size .i64 n.h n.d) : Calls Tryz.prog 60 #[nv n, .slice A l.length c] w (BoolPost w (lk l n)) := by
  have HR : Hid (lk l n = l.any fun i => wa n i) := rfl
  have hb0 : Below w.heap.size w (w.alloc (no n)) := (Below.refl _ _).alloc (Nat.le_refl _) _
  have HB0 := Lib.hid hb0
  have N0 := Lib.hid (nb_new w n)
  have HS := Lib.hid (hs.to hb0 hb0.size)
  have HD := Lib.hid (hd.to hb0 hb0.size)
  have HF := Lib.hid hf
  have hz : w.heap.size < (w.alloc (no n)).heap.size := N0.out.lt
  generalize lk l n = r at *
  clear hs hd hf hb0
  have HWa : Hid (∀ i, wa n i = At.wt n.d i.1 i.2) := fun i => rfl
  obtain ⟨nb, ns, nq, nd, nh, nc⟩ := n
  simp only [nv, no] at *
  go_enter Tryz.func60, Tryz.ntmps60
  go_wp2
  generalize hBn : w.heap.size = Bn at *
  generalize w.alloc (.cells #[.int .i64 nb, .int .i64 ns, .int .i64 nq, .slice nh nd.length nc] 30) = W0 at *
  go_loopg [5] l.length (fun q t W => ∃ k : Nat, k + q = l.length ∧ t = .int .i64 (k : Int) ∧ Hid (Below W0.heap.size W0 W) ∧ Hid (∀ j i, j < k → l[j]? = some i → wa ⟨nb, ns, nq, nd, nh, nc⟩ i = false))
  case atStart => exact ⟨0, by omega, rfl, Below.refl _ _, fun j i h => by omega⟩
  case round =>
    obtain ⟨k, hk, rfl, hB, hno⟩ := hrel
    by_cases hlt : k < l.length
    · have hki : (k : Int) < (l.length : Int) := by omega
      have hk0 : (0 : Int) ≤ (k : Int) := by omega
      have HX := Lib.hid (List.getElem?_eq_getElem hlt)
      have HFx := Lib.hid ((HF.out _ (List.getElem_mem hlt)).1.2)
      obtain ⟨b, off, rfl, hb, p0, p1⟩ := (HS.out.below hB.out (Nat.le_refl _)).at_ HX.out
      obtain ⟨x0, x1, x2, x3⟩ := (N0.out.on hB.out hz).nr
      have hbl : b < wr.heap.size := Nat.lt_of_lt_of_le hb hB.out.size
      have hbn : Bn < wr.heap.size := Nat.lt_of_lt_of_le hz hB.out.size
      have HDw := Lib.hid (HD.out.to hB.out hB.out.size)
      generalize l[k] = i at *
      have HWi := Lib.hid (HWa.out i)
      obtain ⟨i1, i2⟩ := i
      simp only at *
      have KS : Hid (∀ v v', Below v.heap.size v v' → (v.cell? ⟨Bn, 2, none⟩ = some (.int .i64 nq) ∧ v.cell? ⟨Bn, 3, none⟩ = some (.slice nh nd.length nc) ∧ v.cell? ⟨b, off + k * 2, none⟩ = some (.int .i64 i1) ∧ v.cell? ⟨b, off + k * 2 + 1, none⟩ = some (.int .i64 i2) ∧ Below wr.heap.size wr v) → (v'.cell? ⟨Bn, 2, none⟩ = some (.int .i64 nq) ∧ v'.cell? ⟨Bn, 3, none⟩ = some (.slice nh nd.length nc) ∧ v'.cell? ⟨b, off + k * 2, none⟩ = some (.int .i64 i1) ∧ v'.cell? ⟨b, off + k * 2 + 1, none⟩ = some (.int .i64 i2) ∧ Below wr.heap.size wr v')) := fun v v' hb' hS => by
        obtain ⟨h0, h1, h2, h3, hB'⟩ := hS
        have hc : ∀ b j, b < wr.heap.size → v'.cell? ⟨b, j, none⟩ = v.cell? ⟨b, j, none⟩ := fun b j hbb => World.cell?_of_block (hb'.block b (Nat.lt_of_lt_of_le hbb hB'.size))
        exact ⟨(hc _ _ hbn).trans h0, (hc _ _ hbn).trans h1, (hc _ _ hbl).trans h2, (hc _ _ hbl).trans h3, hB'.trans (hb'.mono hB'.size)⟩
      have S0 : wr.cell? ⟨Bn, 2, none⟩ = some (.int .i64 nq) ∧ wr.cell? ⟨Bn, 3, none⟩ = some (.slice nh nd.length nc) ∧ wr.cell? ⟨b, off + k * 2, none⟩ = some (.int .i64 i1) ∧ wr.cell? ⟨b, off + k * 2 + 1, none⟩ = some (.int .i64 i2) ∧ Below wr.heap.size wr wr := ⟨x2, x3, p0, p1, Below.refl _ _⟩
      have KD := Lib.hid (fun v hS => KS.out v v.drew (Below.refl _ _).drew hS)
      have HC : ∀ W, (W.cell? ⟨Bn, 2, none⟩ = some (.int .i64 nq) ∧ W.cell? ⟨Bn, 3, none⟩ = some (.slice nh nd.length nc) ∧ W.cell? ⟨b, off + k * 2, none⟩ = some (.int .i64 i1) ∧ W.cell? ⟨b, off + k * 2 + 1, none⟩ = some (.int .i64 i2) ∧ Below wr.heap.size wr W) → Hid (Calls Tryz.prog 61 #[.agg #[.int .i64 nq, .slice nh nd.length nc], .agg #[.int .i64 i1, .int .i64 i2]] W (At.BoolPost W (At.wt nd i1 i2))) := fun W hW => At.rwaits_any nq i1 i2 nh nc nd W (HDw.out.up hW.2.2.2.2) HFx.out
      generalize At.wt nd i1 i2 = q at *
      go_wp2_with fail
      go_region_held3 (fun v => v.cell? ⟨Bn, 2, none⟩ = some (.int .i64 nq) ∧ v.cell? ⟨Bn, 3, none⟩ = some (.slice nh nd.length nc) ∧ v.cell? ⟨b, off + k * 2, none⟩ = some (.int .i64 i1) ∧ v.cell? ⟨b, off + k * 2 + 1, none⟩ = some (.int .i64 i2) ∧ Below wr.heap.size wr v)
        (first | (exact S0) | assumption | (exact KD.out _ S0) | (refine KS.out _ _ hb1 ?_; first | assumption | exact KD.out _ S0) | (refine KD.out _ ?_; assumption))
        (first | (go_at_call 61; (with_reducible refine (HC _ ?_).out.mono ?_); (focus (first | assumption | exact KD.out _ S0)); rintro e w5 ⟨rfl, hb1⟩))
      rename_i hSx
      have HB2 := Lib.hid (hB.out.trans (hSx.2.2.2.2.mono hB.out.size))
      have HBE := Lib.hid (HB0.out.trans (HB2.out.mono (Nat.le_of_lt (by omega))))
      clear KS KD S0 HC hSx
      rcases q with _ | _
      · have HN2 : Hid (∀ j i, j < k + 1 → l[j]? = some i → wa ⟨nb, ns, nq, nd, nh, nc⟩ i = false) := fun j i hj hi => by
          rcases Nat.lt_or_ge j k with h | h
          · exact hno.out j i h hi
          · obtain rfl : j = k := by omega
            rw [HX.out] at hi
            cases hi
            exact HWi.out
        go_wp2
        go_roundg (l.length - (k + 1))
        case measure => omega
        case rel => exact ⟨k + 1, by omega, by go_num, HB2.out, HN2.out⟩
      · have HT : Hid (r = true) := HR.out.trans (List.any_eq_true.2 ⟨_, List.mem_of_getElem? HX.out, HWi.out⟩)
        obtain rfl := HT.out
        go_wp2
        go_ret
        exact ⟨rfl, by rw [hBn]; exact HBE.out⟩
    · obtain rfl : k = l.length := by omega
      have HT : Hid (r = false) := HR.out.trans (List.any_eq_false.2 fun i hi => by
        obtain ⟨j, hj⟩ := List.getElem?_of_mem hi
        rw [hno.out j i (List.getElem?_eq_some_iff.1 hj).1 hj]; simp)
      obtain rfl := HT.out
      have HBE := Lib.hid (HB0.out.trans (hB.out.mono (Nat.le_of_lt (by omega))))
      go_wp2
      go_ret
      exact ⟨rfl, by rw [hBn]; exact HBE.out⟩
end Go.Proofs.YtgpciipemgljcaaGreat.Od

/-
  The walk of the document's missing. Conditions: at most 100 nodes.
-/
namespace Go.Proofs.YtgpciipemgljcaaGreat.Od
open Go.RowKit
set_option linter.unusedVariables false

def mj (c : List No) (D : List Is) (k j : Nat) : List Is := (axk k ++ axr k j).filter (mp c D)
theorem mj_row (c : List No) (D : List Is) (k : Nat) : mj c D (k + 1) 0 = mj c D k 60 := by unfold mj; rw [axk_succ, axr_zero, List.append_nil]
theorem mj_succ (c : List No) (D : List Is) (k j : Nat) : mj c D k (j + 1) = mj c D k j ++ if mp c D ((k : Int) + 1, (j : Int) + 1) = true then [((k : Int) + 1, (j : Int) + 1)] else [] := by
  unfold mj
  rw [axr_succ, ← List.append_assoc, List.filter_append]
  congr 1
  by_cases h : mp c D ((k : Int) + 1, (j : Int) + 1) = true <;> simp [h]
theorem mj_zero (c : List No) (D : List Is) : mj c D 0 0 = [] := rfl
theorem mj_all (c : List No) (D : List Is) : mj c D 7 0 = ms c D := by
  unfold mj ms ax
  rw [axr_zero, List.append_nil]
theorem mj_len (c : List No) (D : List Is) (k j : Nat) : (mj c D k j).length ≤ k * 60 + j := by
  unfold mj
  refine Nat.le_trans (List.length_filter_le _ _) ?_
  rw [List.length_append]
  have h1 : ∀ k, (axk k).length = k * 60 := fun k => by
    induction k with
    | zero => rfl
    | succ k ih => rw [axk_succ, List.length_append, ih]; simp [axr]; omega
  rw [h1]
  simp [axr]
theorem mp_eq (c : List No) (D : List Is) (x : Is) (a b w : Bool) (ha : a = decide (x ∈ c.map No.i)) (hb : b = decide (x ∈ D)) (hw : w = c.any fun n => wa n x) : mp c D x = (w && !a && !b) := by
  unfold mp kn
  have : (c.any fun n => decide (n.i = x)) = decide (x ∈ c.map No.i) := by
    rw [Bool.eq_iff_iff]
    simp
  rw [this, ← ha, ← hb, ← hw]
  cases w <;> cases a <;> cases b <;> rfl

set_option maxRecDepth 100000 in
set_option maxHeartbeats 4000000 in
theorem rmissing_any (A : Option Addr) (c : Nat) (l : List No) (hl : l.length ≤ 100) (Ad : Option Addr) (cd : Nat) (D : List Is) (hD : D.length ≤ 1000) (w : World) (hs : Nl w w.heap.size A l) (hd : Dl w w.heap.size l) (hi : Il w w.heap.size Ad D) :
    Calls Tryz.prog 31 #[.slice A l.length c, .slice Ad D.length cd] w (IsPost w (ms l D)) := by
  obtain ⟨i0, hi0, hz0, hz1, hz2⟩ := info_parts info25
  have HIn := Lib.hid (insts_any A c l (by omega) w hs)
  have HS := Lib.hid hs
  have HDl := Lib.hid hd
  have HDn := Lib.hid hi
  have HML : Hid (mj l D 7 0 = ms l D) := mj_all l D
  generalize ms l D = res at *
  clear hs hd hi
  go_enter Tryz.func31, Tryz.ntmps31
  go_wp2_with fail
  refine HIn.out.mono ?_
  rintro e w1 ⟨v1, rfl, ho1, b1⟩
  obtain ⟨A1, c1, rfl, hI1, _⟩ := own_il ho1
  have hml : (l.map No.i).length ≤ 1000 := by simp; omega
  have HB1 := Lib.hid b1
  have HS1 := Lib.hid (HS.out.to b1 b1.size)
  have HDl1 := Lib.hid (HDl.out.to b1 b1.size)
  have HDn1 := Lib.hid (HDn.out.to b1 b1.size)
  have HI1 := Lib.hid hI1
  have HMP := Lib.hid (fun x a b w ha hb hw => mp_eq l D x a b w ha hb hw)
  generalize hown : l.map No.i = own at *
  clear HIn ho1 hI1 b1 HS HDl HDn
  go_wp2
  go_loopg [6, 7] 7 (fun q v t W => ∃ k : Nat, k + q = 7 ∧ t = .int .i64 ((k : Int) + 1) ∧ Hid (W.ownsRow w1.heap.size 25 2 v (mj l D k 0).length (ics (mj l D k 0))) ∧ Hid (Below w1.heap.size w1 W))
  case atStart => exact ⟨0, by omega, rfl, World.ownsRow_nil _ _ _ _, Below.refl _ _⟩
  case round =>
    obtain ⟨k, hk, rfl, hrow, hB⟩ := hrel
    by_cases hlt : k < 7
    · have dk : decide (((k : Int) + 1) ≤ 7) = true := decide_eq_true (by omega)
      have hwk : IntKind.i64.wrap ((k : Int) + 1 + 1) = (k : Int) + 1 + 1 := IntWalk.i64_in _ (by omega)
      go_wp2
      go_loopg [6, 8] 60 (fun q v t W => ∃ j : Nat, j + q = 60 ∧ t = .int .i64 ((j : Int) + 1) ∧ Hid (W.ownsRow w1.heap.size 25 2 v (mj l D k j).length (ics (mj l D k j))) ∧ Hid (Below w1.heap.size w1 W))
      case atStart => exact ⟨0, by omega, rfl, hrow.out, hB.out⟩
      case round =>
        clear hrow hB
        obtain ⟨j, hj, rfl, hrow, hB⟩ := hrel
        by_cases hjt : j < 60
        · have dj : decide (((j : Int) + 1) ≤ 60) = true := decide_eq_true (by omega)
          have hwj : IntKind.i64.wrap ((j : Int) + 1 + 1) = (j : Int) + 1 + 1 := IntWalk.i64_in _ (by omega)
          have HX := Lib.hid (jb_new wr ((k : Int) + 1, (j : Int) + 1))
          have HR2 := Lib.hid (hrow.out.alloc (io ((k : Int) + 1, (j : Int) + 1)))
          have HB2 := Lib.hid (hB.out.alloc hB.out.size (io ((k : Int) + 1, (j : Int) + 1)))
          have HH1 := Lib.hid (has_any A1 c1 own ((k : Int) + 1, (j : Int) + 1) _ rfl hml (wr.alloc (io ((k : Int) + 1, (j : Int) + 1))) (HI1.out.to HB2.out HB2.out.size))
          have HH2 : ∀ V, Below w1.heap.size w1 V → Hid (Calls Tryz.prog 19 #[.slice Ad D.length cd, iv ((k : Int) + 1, (j : Int) + 1)] V (BoolPost V (decide (((k : Int) + 1, (j : Int) + 1) ∈ D)))) := fun V hV => has_any Ad cd D _ _ rfl hD V (HDn1.out.to hV hV.size)
          have HMS := Lib.hid (mj_succ l D k j)
          have HM1 := Lib.hid (fun q hq => HMP.out ((k : Int) + 1, (j : Int) + 1) (decide (((k : Int) + 1, (j : Int) + 1) ∈ own)) (decide (((k : Int) + 1, (j : Int) + 1) ∈ D)) q rfl rfl hq)
          generalize decide (((k : Int) + 1, (j : Int) + 1) ∈ own) = ra at *
          generalize decide (((k : Int) + 1, (j : Int) + 1) ∈ D) = rb at *
          have hml2 := mj_len l D k j
          generalize mp l D ((k : Int) + 1, (j : Int) + 1) = rm at *
          simp only [io, iv] at *
          clear hrow hB
          obtain ⟨x0, x1⟩ := HX.out.jr
          have hBx := HX.out.lt
          go_wp2_with fail
          generalize hB9 : wr.heap.size = B9 at *
          generalize wr.alloc (.cells #[.int .i64 ((k : Int) + 1), .int .i64 ((j : Int) + 1)] 25) = W2 at *
          refine HH1.out.mono ?_
          rintro e w3 ⟨rfl, b3⟩
          have HB3 := Lib.hid (HB2.out.trans (b3.mono HB2.out.size))
          have HX3 := Lib.hid (HX.out.on b3 hBx)
          have HR3 := Lib.hid (ownk HR2.out b3)
          have hBx3 := HX3.out.lt
          have HH3 := HH2 w3 HB3.out
          clear HH1 HX HR2 HB2 b3 x0 x1 HH2
          obtain ⟨x0, x1⟩ := HX3.out.jr
          go_wp2_with fail
          refine HH3.out.mono ?_
          rintro e w4 ⟨rfl, b4⟩
          have HB4 := Lib.hid (HB3.out.trans (b4.mono HB3.out.size))
          have HX4 := Lib.hid (HX3.out.on b4 hBx3)
          have HR4 := Lib.hid (ownk HR3.out b4)
          have hBx4 := HX4.out.lt
          clear HH3 HX3 HR3 HB3 b4 x0 x1
          go_wp2
          go_loopg [12, 13] l.length (fun q v t W => ∃ i : Nat, ∃ b : Bool, i + q = l.length ∧ v = .bool b ∧ t = .int .i64 (i : Int) ∧ Hid (b = (l.take i).any fun n => wa n ((k : Int) + 1, (j : Int) + 1)) ∧ Hid (Below w4.heap.size w4 W))
          case atStart => exact ⟨0, false, by omega, rfl, rfl, rfl, Below.refl _ _⟩
          case round =>
            obtain ⟨i, q, hi, rfl, rfl, hq, hb⟩ := hrel
            have HXr := HX4.out.on hb.out hBx4
            obtain ⟨x0, x1⟩ := HXr.jr
            have hbn : B9 < wr.heap.size := HXr.lt
            by_cases hit : i < l.length
            · have hii : (i : Int) < (l.length : Int) := by omega
              have hi00 : (0 : Int) ≤ (i : Int) := by omega
              have HN := Lib.hid (List.getElem?_eq_getElem hit)
              have HBr := Lib.hid (HB4.out.trans (hb.out.mono HB4.out.size))
              have HDx := Lib.hid ((HDl1.out _ (List.getElem_mem hit)).to HBr.out HBr.out.size)
              obtain ⟨b, off, rfl, hb1', p0, p1, p2, p3⟩ := (HS1.out.below HBr.out (Nat.le_refl _)).at_ HN.out
              have hbl : b < wr.heap.size := Nat.lt_of_lt_of_le hb1' HBr.out.size
              have HQ : Hid (((l.take (i + 1)).any fun n => wa n ((k : Int) + 1, (j : Int) + 1)) = (q || wa l[i] ((k : Int) + 1, (j : Int) + 1))) := by
                show _ = _
                rw [hq.out, ← List.take_append_getElem hit, List.any_append]
                simp
              generalize l[i] = n at *
              obtain ⟨nb, ns, nq, nd, nh, nc⟩ := n
              simp only at *
              have HWq : Hid (wa ⟨nb, ns, nq, nd, nh, nc⟩ ((k : Int) + 1, (j : Int) + 1) = At.wt nd ((k : Int) + 1) ((j : Int) + 1)) := rfl
              have KS : Hid (∀ v v', Below v.heap.size v v' → (v.cell? ⟨b, off + i * 4 + 2, none⟩ = some (.int .i64 nq) ∧ v.cell? ⟨b, off + i * 4 + 3, none⟩ = some (.slice nh nd.length nc) ∧ v.cell? ⟨B9, 0, none⟩ = some (.int .i64 ((k : Int) + 1)) ∧ v.cell? ⟨B9, 1, none⟩ = some (.int .i64 ((j : Int) + 1)) ∧ Below wr.heap.size wr v) → (v'.cell? ⟨b, off + i * 4 + 2, none⟩ = some (.int .i64 nq) ∧ v'.cell? ⟨b, off + i * 4 + 3, none⟩ = some (.slice nh nd.length nc) ∧ v'.cell? ⟨B9, 0, none⟩ = some (.int .i64 ((k : Int) + 1)) ∧ v'.cell? ⟨B9, 1, none⟩ = some (.int .i64 ((j : Int) + 1)) ∧ Below wr.heap.size wr v')) := fun v v' hb' hS => by
                obtain ⟨h0, h1, h2, h3, hB'⟩ := hS
                have hc : ∀ b j, b < wr.heap.size → v'.cell? ⟨b, j, none⟩ = v.cell? ⟨b, j, none⟩ := fun b j hbb => World.cell?_of_block (hb'.block b (Nat.lt_of_lt_of_le hbb hB'.size))
                exact ⟨(hc _ _ hbl).trans h0, (hc _ _ hbl).trans h1, (hc _ _ hbn).trans h2, (hc _ _ hbn).trans h3, hB'.trans (hb'.mono hB'.size)⟩
              have S0 : wr.cell? ⟨b, off + i * 4 + 2, none⟩ = some (.int .i64 nq) ∧ wr.cell? ⟨b, off + i * 4 + 3, none⟩ = some (.slice nh nd.length nc) ∧ wr.cell? ⟨B9, 0, none⟩ = some (.int .i64 ((k : Int) + 1)) ∧ wr.cell? ⟨B9, 1, none⟩ = some (.int .i64 ((j : Int) + 1)) ∧ Below wr.heap.size wr wr := ⟨p2, p3, x0, x1, Below.refl _ _⟩
              have KD := Lib.hid (fun v hS => KS.out v v.drew (Below.refl _ _).drew hS)
              have HC : ∀ W, (W.cell? ⟨b, off + i * 4 + 2, none⟩ = some (.int .i64 nq) ∧ W.cell? ⟨b, off + i * 4 + 3, none⟩ = some (.slice nh nd.length nc) ∧ W.cell? ⟨B9, 0, none⟩ = some (.int .i64 ((k : Int) + 1)) ∧ W.cell? ⟨B9, 1, none⟩ = some (.int .i64 ((j : Int) + 1)) ∧ Below wr.heap.size wr W) → Hid (Calls Tryz.prog 61 #[.agg #[.int .i64 nq, .slice nh nd.length nc], .agg #[.int .i64 ((k : Int) + 1), .int .i64 ((j : Int) + 1)]] W (At.BoolPost W (At.wt nd ((k : Int) + 1) ((j : Int) + 1)))) := fun W hW => At.rwaits_any nq ((k : Int) + 1) ((j : Int) + 1) nh nc nd W (HDx.out.up hW.2.2.2.2) (by omega)
              generalize At.wt nd ((k : Int) + 1) ((j : Int) + 1) = r at *
              go_wp2_with fail
              go_region_held3 (fun v => v.cell? ⟨b, off + i * 4 + 2, none⟩ = some (.int .i64 nq) ∧ v.cell? ⟨b, off + i * 4 + 3, none⟩ = some (.slice nh nd.length nc) ∧ v.cell? ⟨B9, 0, none⟩ = some (.int .i64 ((k : Int) + 1)) ∧ v.cell? ⟨B9, 1, none⟩ = some (.int .i64 ((j : Int) + 1)) ∧ Below wr.heap.size wr v)
                (first | (exact S0) | assumption | (exact KD.out _ S0) | (refine KS.out _ _ hb1 ?_; first | assumption | exact KD.out _ S0) | (refine KD.out _ ?_; assumption))
                (first | (go_at_call 61; (with_reducible refine (HC _ ?_).out.mono ?_); (focus (first | assumption | exact KD.out _ S0)); rintro e w5 ⟨rfl, hb1⟩))
              rename_i hSx
              have HBo := Lib.hid (hb.out.trans (hSx.2.2.2.2.mono hb.out.size))
              have HQ2 := Lib.hid (HQ.out.trans (by rw [HWq.out]))
              clear KS KD S0 HC hSx
              rcases q with _ | _
              · go_wp2
                go_roundg (l.length - (i + 1))
                case measure => omega
                case rel => exact ⟨i + 1, r, by omega, rfl, by go_num, by rw [HQ2.out]; rfl, HBo.out⟩
              · go_wp2
                go_roundg (l.length - (i + 1))
                case measure => omega
                case rel => exact ⟨i + 1, true, by omega, rfl, by go_num, by rw [HQ2.out]; rfl, HBo.out⟩
            · obtain rfl : i = l.length := by omega
              rw [List.take_length] at hq
              have HM2 := Lib.hid (HM1.out q hq.out)
              have HBr := Lib.hid (HB4.out.trans (hb.out.mono HB4.out.size))
              have HRr := Lib.hid (ownk HR4.out hb.out)
              clear hq HR4 HB4 hb
              have HE0 : ∀ b, Hid (rm = b) → Hid (mj l D k (j + 1) = mj l D k j ++ if b = true then [((k : Int) + 1, (j : Int) + 1)] else []) := fun b h => by
                show _ = _
                rw [HMS.out, h.out]
              rcases q with _ | _
              · have HE : Hid (mj l D k (j + 1) = mj l D k j) := (HE0 false HM2.out).out.trans (by simp)
                go_wp2
                go_roundg (60 - (j + 1))
                case measure => omega
                case rel => exact ⟨j + 1, by omega, by go_num, by rw [HE.out]; exact HRr.out, HBr.out⟩
              · rcases ra with _ | _
                · rcases rb with _ | _
                  · have HE : Hid (mj l D k (j + 1) = mj l D k j ++ [((k : Int) + 1, (j : Int) + 1)]) := (HE0 true HM2.out).out.trans (by simp)
                    have H10 := Lib.hid (HRr.out.alloc (.cells #[.int .i64 ((k : Int) + 1), .int .i64 ((j : Int) + 1)] 25))
                    have HB7 := Lib.hid (HBr.out.alloc HBr.out.size (.cells #[.int .i64 ((k : Int) + 1), .int .i64 ((j : Int) + 1)] 25))
                    have hsz := HBr.out.size
                    have hml3 : (mj l D k j).length ≤ 1000 := by omega
                    clear HRr HBr
                    go_wp2_with (at_builtin; refine wpList_append_own_at _ rfl _ _ 23 rfl w1.heap.size 25 i0 (.agg #[.int .i64 0, .int .i64 0]) 2 16 Tryz.underlying23 hi0 hz0 hz1 hz2 rfl (by decide) _ (mj l D k j).length (ics (mj l D k j)) rfl H10.out ⟨wr.heap.size, 0, none⟩ 1 1 [.int .i64 ((k : Int) + 1), .int .i64 ((j : Int) + 1)] rfl rfl (cell_two_new _ _ _ _) (by simp [Value.oneCell']) (by unfold maxLen; omega) (by omega) (by simp; omega) ?_; intro v' w9 hown9 hgrow9 _ hat9)
                    have HB9 := Lib.hid (HB7.out.grown hgrow9 HB7.out.size (fun r hr => (H10.out.lt r hr).1))
                    have H11 : Hid (w9.ownsRow w1.heap.size 25 2 v' (mj l D k (j + 1)).length (ics (mj l D k (j + 1)))) := by
                      show World.ownsRow _ _ _ _ _ _ _
                      rw [HE.out, List.length_append, ics_append]
                      exact hown9
                    clear hown9 hgrow9 H10 HB7
                    go_wp2
                    go_roundg (60 - (j + 1))
                    case measure => omega
                    case rel => exact ⟨j + 1, by omega, by go_num, H11.out, HB9.out⟩
                  · have HE : Hid (mj l D k (j + 1) = mj l D k j) := (HE0 false HM2.out).out.trans (by simp)
                    go_wp2
                    go_roundg (60 - (j + 1))
                    case measure => omega
                    case rel => exact ⟨j + 1, by omega, by go_num, by rw [HE.out]; exact HRr.out, HBr.out⟩
                · have HE : Hid (mj l D k (j + 1) = mj l D k j) := (HE0 false HM2.out).out.trans (by simp)
                  go_wp2
                  go_roundg (60 - (j + 1))
                  case measure => omega
                  case rel => exact ⟨j + 1, by omega, by go_num, by rw [HE.out]; exact HRr.out, HBr.out⟩

        · obtain rfl : j = 60 := by omega
          have dj : decide (((60 : Nat) : Int) + 1 ≤ 60) = false := by decide
          have HR5 : Hid (wr.ownsRow w1.heap.size 25 2 u6 (mj l D (k + 1) 0).length (ics (mj l D (k + 1) 0))) := by
            show World.ownsRow _ _ _ _ _ _ _
            rw [mj_row]
            exact hrow.out
          go_wp2
          go_roundg (7 - (k + 1))
          case measure => omega
          case rel => exact ⟨k + 1, by omega, by go_num, HR5.out, hB.out⟩
    · obtain rfl : k = 7 := by omega
      have HX : Hid (wr.ownsRow w.heap.size 25 2 u6 res.length (ics res)) := by
        show World.ownsRow _ _ _ _ _ _ _
        rw [← HML.out]
        exact hrow.out.mono HB1.out.size
      have HBX := Lib.hid (HB1.out.trans (hB.out.mono HB1.out.size))
      go_wp2
      go_ret
      exact ⟨_, rfl, HX.out, HBX.out⟩
end Go.Proofs.YtgpciipemgljcaaGreat.Od

/-
  The walks of the document's Missing and ready. Conditions: at most 100 nodes, of which at most 30 count; at most 7 deps each; at most 1000 that were done.
-/
namespace Go.Proofs.YtgpciipemgljcaaGreat.Od
open Go.RowKit
open Go.Proofs.YtgpciipemgljcaaGreat.Gp (cz zs)
set_option linter.unusedVariables false

theorem rMissing_any (A : Option Addr) (c : Nat) (l : List No) (hl : l.length ≤ 100) (h7 : ∀ n ∈ l, n.d.length ≤ 1000) (Ad : Option Addr) (cd : Nat) (D : List Is) (hD : D.length ≤ 1000) (w : World) (hs : Nl w w.heap.size A l) (hd : Dl w w.heap.size l) (hi : Il w w.heap.size Ad D) :
    Calls Tryz.prog 15 #[.slice A l.length c, .slice Ad D.length cd] w (IsPost w (ms (cs l D) D)) := by
  have HC := Lib.hid (Count_any A c l hl h7 Ad cd D hD w hs hd hi)
  have hcl : (cs l D).length ≤ 100 := Nat.le_trans (cs_len l D) hl
  have HDc := Lib.hid (hd.sub fun n (hn : n ∈ cs l D) => cs_in hn)
  have HDn := Lib.hid hi
  have HM : ∀ W A' c', Nl W W.heap.size A' (cs l D) → Below w.heap.size w W → Hid (Calls Tryz.prog 31 #[.slice A' (cs l D).length c', .slice Ad D.length cd] W (IsPost W (ms (cs l D) D))) := fun W A' c' hN hB =>
    rmissing_any A' c' (cs l D) hcl Ad cd D hD W hN (HDc.out.to hB hB.size) (HDn.out.to hB hB.size)
  generalize ms (cs l D) D = mm at *
  clear hs hd hi h7
  go_enter Tryz.func15, Tryz.ntmps15
  go_wp2_with fail
  refine HC.out.mono ?_
  rintro e w1 ⟨v1, rfl, ho1, b1⟩
  obtain ⟨A1, c1, rfl, hN1, _⟩ := own_nl ho1
  have HM1 := HM w1 A1 c1 hN1 b1
  clear HM HC hN1 ho1
  generalize cs l D = cl at *
  go_wp2_with fail
  refine HM1.out.mono ?_
  rintro e w2 ⟨v2, rfl, ho2, b2⟩
  have HO := Lib.hid (ho2.mono b1.size)
  have HB := Lib.hid (b1.trans (b2.mono b1.size))
  go_wp2
  go_ret
  exact ⟨_, rfl, HO.out, HB.out⟩
end Go.Proofs.YtgpciipemgljcaaGreat.Od

/-
  The walk of the document's ready. Conditions: at most 30 nodes, each near, of at most 7 deps.
-/
namespace Go.Proofs.YtgpciipemgljcaaGreat.Od
open Go.RowKit
open Go.Proofs.YtgpciipemgljcaaGreat.Gp (cz zs)
set_option linter.unusedVariables false

set_option maxRecDepth 100000 in
set_option maxHeartbeats 4000000 in
theorem rready_any (A : Option Addr) (c : Nat) (cl : List No) (D : List Is) (hl : cl.length ≤ 30) (hwf : Wf cl) (Am : Option Addr) (cm : Nat) (hmf : Wd (ms cl D)) (w : World) (hs : Nl w w.heap.size A cl) (hd : Dl w w.heap.size cl) (hi : Il w w.heap.size Am (ms cl D)) :
    Calls Tryz.prog 30 #[.slice A cl.length c, .slice Am (ms cl D).length cm] w (NlPost w (rd cl D)) := by
  obtain ⟨i0, hi0, hz0, hz1, hz2⟩ := info_parts info30
  have HE := Lib.hid (redges_any A c cl (by omega) hwf w hs hd)
  have HRD : Hid (rd cl D = rdk cl D cl.length) := rfl
  have HEe := ee_len hl
  have HS := Lib.hid hs
  have HDl := Lib.hid hd
  have hml := ms_len cl D
  have HLk : ∀ n ∈ cl, ∀ V, Below w.heap.size w V → Hid (Calls Tryz.prog 60 #[nv n, .slice Am (ms cl D).length cm] V (BoolPost V (lk (ms cl D) n))) := fun n hn V hV =>
    rlacks_any n Am cm (ms cl D) hml hmf V (hi.to hV hV.size) ((hd n hn).to hV hV.size)
  have HLv := Lib.hid (fun (j : Nat) (x : No) (h : cl[j]? = some x) (hj : j < cl.length) => show lvk cl D cl.length j = lk (ms cl D) x by simp [lvk, hj, lv_at h])
  generalize rd cl D = res at *
  generalize hms : (ms cl D).length = nm at *
  clear hs hd hi hmf hwf hms
  go_enter Tryz.func30, Tryz.ntmps30
  go_wp2_with fail
  refine HE.out.mono ?_
  rintro e w1 ⟨Ae, ce, rfl, hEs, b1⟩
  have HEs := Lib.hid hEs
  have HB1 := Lib.hid b1
  clear HE hEs b1
  go_wp2
  go_loopg [6, 7] cl.length (fun q v t W => ∃ k : Nat, k + q = cl.length ∧ t = .int .i64 (k : Int) ∧ Hid (W.ownsRow w1.heap.size 30 4 v (rdk cl D k).length (ncs (rdk cl D k))) ∧ Hid (Below w1.heap.size w1 W))
  case atStart => exact ⟨0, by omega, rfl, World.ownsRow_nil _ _ _ _, Below.refl _ _⟩
  case round =>
    obtain ⟨k, hk, rfl, hrow, hB⟩ := hrel
    by_cases hlt : k < cl.length
    · have hki : (k : Int) < (cl.length : Int) := by omega
      have hk0 : (0 : Int) ≤ (k : Int) := by omega
      have HX := Lib.hid (List.getElem?_eq_getElem hlt)
      have HG := Lib.hid (gd_any (by omega) D hlt)
      have HYes : Hid (gd cl D k = true → rdk cl D (k + 1) = rdk cl D k ++ [cl[k]]) := rdk_yes hlt
      have HNo : Hid (gd cl D k = false → rdk cl D (k + 1) = rdk cl D k) := rdk_no
      have HZi := Lib.hid (zs_in (c := cl) (by omega) hlt)
      have HCl := Lib.hid (Gp.rClosure_any (cl.length : Int) Ae ce (ee cl) (k : Int) HEe wr (HEs.out.to hB.out hB.out.size))
      have hxl : (zs (cz (cl.length : Int) (ee cl) (k : Int))).length ≤ 1000 := by
        rw [Gp.zs_len]
        have := Gp.cz_len (cl.length : Int) (ee cl) (k : Int)
        omega
      have hrl := rdk_len cl D k
      generalize cl[k] = x at *
      generalize zs (cz (cl.length : Int) (ee cl) (k : Int)) = xs at *
      generalize gd cl D k = gq at *
      go_wp2_with fail
      refine HCl.out.mono ?_
      rintro e w2 ⟨A2, c2, rfl, hS2, b2⟩
      have HS2 := Lib.hid hS2
      have HB2 := Lib.hid (hB.out.trans (b2.mono hB.out.size))
      have HR2 := Lib.hid (ownk hrow.out b2)
      clear hS2 b2 HCl hB hrow
      go_wp2
      go_loopg [8, 10] xs.length (fun q v t W => ∃ j : Nat, ∃ b : Bool, j + q = xs.length ∧ v = .bool b ∧ t = .int .i64 (j : Int) ∧ Hid (b = !((xs.take j).any fun x => lvk cl D cl.length x.toNat)) ∧ Hid (Below w2.heap.size w2 W))
      case atStart => exact ⟨0, true, by omega, rfl, rfl, rfl, Below.refl _ _⟩
      case round =>
        obtain ⟨j, b, hj, rfl, rfl, hb, hB3⟩ := hrel
        have HBr := Lib.hid (HB1.out.trans ((HB2.out.trans (hB3.out.mono HB2.out.size)).mono HB1.out.size))
        by_cases hjt : j < xs.length
        · have hji : (j : Int) < (xs.length : Int) := by omega
          have hj0 : (0 : Int) ≤ (j : Int) := by omega
          obtain ⟨b2, off2, rfl, hb2, cx⟩ := (HS2.out.below hB3.out).at_ hjt
          obtain ⟨m, hm, hmn⟩ := HZi.out _ (List.getElem_mem hjt)
          have HQ : Hid (((xs.take (j + 1)).any fun x => lvk cl D cl.length x.toNat) = (((xs.take j).any fun x => lvk cl D cl.length x.toNat) || lvk cl D cl.length m)) := by
            show _ = _
            rw [← List.take_append_getElem hjt, List.any_append, hm]
            simp
          rw [hm] at cx
          clear hm
          have hmi : (m : Int) < (cl.length : Int) := by omega
          have hm0 : (0 : Int) ≤ (m : Int) := by omega
          have HY := Lib.hid (List.getElem?_eq_getElem hmn)
          have HLy := HLk _ (List.getElem_mem hmn) wr HBr.out
          have HLw := Lib.hid (HLv.out m _ HY.out hmn)
          obtain ⟨b', off', rfl, hb', p0, p1, p2, p3⟩ := (HS.out.below HBr.out (Nat.le_refl _)).at_ HY.out
          generalize cl[m] = y at *
          generalize lk (ms cl D) y = r at *
          obtain ⟨yb, ys, yq, yd, yh, yc⟩ := y
          simp only [nv] at *
          go_wp2_with fail
          refine HLy.out.mono ?_
          rintro e w4 ⟨rfl, b4⟩
          have HB4 := Lib.hid (hB3.out.trans (b4.mono hB3.out.size))
          clear HLy b4 hB3 HBr
          rcases r with _ | _
          · have HQ2 : Hid (b = !((xs.take (j + 1)).any fun x => lvk cl D cl.length x.toNat)) := by
              show _ = _
              rw [HQ.out, HLw.out, Bool.or_false]
              exact hb.out
            go_wp2
            go_roundg (xs.length - (j + 1))
            case measure => omega
            case rel => exact ⟨j + 1, b, by omega, rfl, by go_num, HQ2.out, HB4.out⟩
          · have HQ2 : Hid (false = !((xs.take (j + 1)).any fun x => lvk cl D cl.length x.toNat)) := by
              show _ = _
              rw [HQ.out, HLw.out, Bool.or_true]
              rfl
            go_wp2
            go_roundg (xs.length - (j + 1))
            case measure => omega
            case rel => exact ⟨j + 1, false, by omega, rfl, by go_num, HQ2.out, HB4.out⟩
        · obtain rfl : j = xs.length := by omega
          rw [List.take_length] at hb
          have HGb : Hid (gq = b) := HG.out.trans hb.out.symm
          have HRr := Lib.hid (ownk HR2.out hB3.out)
          have HBw := Lib.hid (HB2.out.trans (hB3.out.mono HB2.out.size))
          obtain ⟨b', off', rfl, hb', p0, p1, p2, p3⟩ := (HS.out.below HBr.out (Nat.le_refl _)).at_ HX.out
          obtain ⟨xb, xs', xq, xd, xh, xc⟩ := x
          simp only at *
          clear hb HG HR2 HB2 hB3 HBr
          rcases b with _ | _
          · have HE := Lib.hid (HNo.out HGb.out)
            go_wp2
            go_roundg (cl.length - (k + 1))
            case measure => omega
            case rel => exact ⟨k + 1, by omega, by go_num, by rw [HE.out]; exact HRr.out, HBw.out⟩
          · have HE := Lib.hid (HYes.out HGb.out)
            have H10 := Lib.hid (HRr.out.alloc (no ⟨xb, xs', xq, xd, xh, xc⟩))
            have HB7 := Lib.hid (HBw.out.alloc HBw.out.size (no ⟨xb, xs', xq, xd, xh, xc⟩))
            have hsz := HBw.out.size
            simp only [no] at H10 HB7
            clear HRr HBw
            go_wp2_with (at_builtin; refine wpList_append_own_at _ rfl _ _ 22 rfl w1.heap.size 30 i0 (.agg #[.int .i64 0, .int .i64 0, .int .i64 0, .slice none 0 0]) 4 48 Tryz.underlying22 hi0 hz0 hz1 hz2 rfl (by decide) _ (rdk cl D k).length (ncs (rdk cl D k)) rfl H10.out ⟨wr.heap.size, 0, none⟩ 1 1 [.int .i64 xb, .int .i64 xs', .int .i64 xq, .slice xh xd.length xc] rfl rfl (cell_four_new _ _ _ _ _ _) (by simp [Value.oneCell']) (by unfold maxLen; omega) (by omega) (by simp; omega) ?_; intro v' w9 hown9 hgrow9 _ hat9)
            have HB9 := Lib.hid (HB7.out.grown hgrow9 HB7.out.size (fun r hr => (H10.out.lt r hr).1))
            have H11 : Hid (w9.ownsRow w1.heap.size 30 4 v' (rdk cl D (k + 1)).length (ncs (rdk cl D (k + 1)))) := by
              show World.ownsRow _ _ _ _ _ _ _
              rw [HE.out, List.length_append, ncs_append]
              exact hown9
            clear hown9 hgrow9 H10 HB7
            go_wp2
            go_roundg (cl.length - (k + 1))
            case measure => omega
            case rel => exact ⟨k + 1, by omega, by go_num, H11.out, HB9.out⟩
    · obtain rfl : k = cl.length := by omega
      have HX : Hid (wr.ownsRow w.heap.size 30 4 u6 res.length (ncs res)) := by
        show World.ownsRow _ _ _ _ _ _ _
        rw [HRD.out]
        exact hrow.out.mono HB1.out.size
      have HBX := Lib.hid (HB1.out.trans (hB.out.mono HB1.out.size))
      go_wp2
      go_ret
      exact ⟨_, rfl, HX.out, HBX.out⟩
end Go.Proofs.YtgpciipemgljcaaGreat.Od

/-
  The walk of the document's own Components. Conditions: at most 1000 edges.
-/
namespace Go.Proofs.YtgpciipemgljcaaGreat.Gp
open Go.RowKit Go.Shelf
set_option linter.unusedVariables false

/-- Rows of bools, a row of them. -/
def Rw (W : World) (base : Nat) (v : Value) (k m : Nat) (F : Nat → Nat → Bool) : Prop := ∃ hs : List Value, W.ownsRow base 41 1 v k hs ∧ ∀ i, i < k → ∃ r, hs[i]? = some (.slice (some ⟨r, 0, none⟩) m m) ∧ Br W r (F i) m
theorem Rw.up {w w' : World} {base k m : Nat} {v : Value} {F : Nat → Nat → Bool} (h : Rw w base v k m F) (hb : Below w.heap.size w w') : Rw w' base v k m F := by
  obtain ⟨hs, h1, h2⟩ := h
  exact ⟨hs, own_same h1 fun g hg => hb.block g (h1.lt g hg).2, fun i hi => by obtain ⟨r, k1, k2⟩ := h2 i hi; exact ⟨r, k1, Tb.on k2 hb (Tb.lt k2)⟩⟩
/-- A row more. -/
theorem rw_more {w w' : World} {base g c k m s : Nat} {v : Value} {hs : List Value} {F : Nat → Nat → Bool} (h1 : w.ownsRow base 41 1 v k hs) (h2 : ∀ i, i < k → ∃ r, hs[i]? = some (.slice (some ⟨r, 0, none⟩) m m) ∧ Br w r (F i) m) (hs2 : Br w s (F k) m) (hg : w.grownBy w' v.ownBlock)
    (ho : w'.ownsRow base 41 1 (.slice (some ⟨g, 0, none⟩) (k + 1) c) (k + 1) (hs ++ [.slice (some ⟨s, 0, none⟩) m m])) : Rw w' base (.slice (some ⟨g, 0, none⟩) (k + 1) c) (k + 1) m F := by
  have hl : hs.length = k := by have := h1.1; omega
  have hup : ∀ r f, Br w r f m → Br w' r f m := fun r f h => Tb.same h (hg.block r (Tb.lt h) (own_tag h1 (show w.heap[r]? = some (.cells (tab (fun j => .bool (f j)) m) 4 (0, 0)) from h) (by decide)))
  refine ⟨_, ho, fun i hi => ?_⟩
  rcases Nat.lt_or_ge i k with h | h
  · obtain ⟨r, k1, k2⟩ := h2 i h
    exact ⟨r, by rw [List.getElem?_append_left (by omega)]; exact k1, hup r _ k2⟩
  · obtain rfl : i = k := by omega
    exact ⟨s, by rw [List.getElem?_append_right (by omega), hl, Nat.sub_self]; rfl, hup s _ hs2⟩
/-- The rows' cells, as long as what lay below stays. -/
theorem Rw.cells {W1 : World} {base m : Nat} {v : Value} {F : Nat → Nat → Bool} (h : Rw W1 base v m m F) (hm : 0 < m) : ∃ gf cf, ∃ R : Nat → Nat, v = .slice (some ⟨gf, 0, none⟩) m cf ∧ ∀ W, Below W1.heap.size W1 W → ∀ i j, i < m → j < m → W.cell? ⟨gf, i, none⟩ = some (.slice (some ⟨R i, 0, none⟩) m m) ∧ W.cell? ⟨R i, j, none⟩ = some (.bool (F i j)) := by
  obtain ⟨hs, h1, h2⟩ := h
  rcases id h1.2 with ⟨rfl, h0⟩ | ⟨g, cap, cur, rfl, _⟩
  · omega
  · have hR : ∀ i, ∃ r, i < m → hs[i]? = some (.slice (some ⟨r, 0, none⟩) m m) ∧ Br W1 r (F i) m := fun i => by
      by_cases hi : i < m
      · obtain ⟨r, hr⟩ := h2 i hi
        exact ⟨r, fun _ => hr⟩
      · exact ⟨0, fun h => absurd h hi⟩
    obtain ⟨R, hR⟩ := Classical.axiomOfChoice hR
    refine ⟨g, cap, R, rfl, fun W hW i j hi hj => ?_⟩
    obtain ⟨k1, k2⟩ := hR i hi
    exact ⟨(World.cell?_of_block (a := ⟨g, i, none⟩) (hW.block g (h1.lt g rfl).2)).trans (own_cell h1 k1), (Tb.on k2 hW (Tb.lt k2)).cell hj⟩

theorem fr_rb {n : Int} {l : List (Int × Int)} {i x : Nat} (hi : i < am n) : fr n l (i : Int) x = rb (Ed (am n) l) i x := by
  unfold fr
  rw [decide_eq_true (by omega), Bool.true_and]
  rfl
/-- What the search finds free. -/
theorem free_fr {E : Nat → Nat → Prop} {m : Nat} {told : Nat → Bool} {i : Nat} (h : ∀ y, y < m → (rb E i y && !rb E y i && !told y) = false) : Fr E m (fun x => told x = true) i := fun j hj r => by
  have := h j hj
  rw [rb_iff.2 r] at this
  rcases hb : rb E j i with _ | _
  · rw [hb] at this
    rcases ht : told j with _ | _
    · rw [ht] at this; cases this
    · exact .inr ht
  · exact .inl (rb_iff.1 hb)
theorem fr_free {E : Nat → Nat → Prop} {m : Nat} {told : Nat → Bool} {i : Nat} (h : Fr E m (fun x => told x = true) i) : ∀ y, y < m → (rb E i y && !rb E y i && !told y) = false := fun y hy => by
  rcases hb : rb E i y with _ | _
  · rfl
  · rcases h y hy (rb_iff.1 hb) with k | k
    · rw [rb_iff.2 k]; rfl
    · rw [show told y = true from k]; simp
/-- The first of a component. -/
noncomputable def cpre (E : Nat → Nat → Prop) (k j : Nat) : List Nat := (List.range j).filter fun x => rb E k x && rb E x k
theorem cpre_len (E : Nat → Nat → Prop) (k j : Nat) : (cpre E k j).length ≤ j := by
  have := List.length_filter_le (fun x => rb E k x && rb E x k) (List.range j)
  simpa [cpre] using this
theorem cpre_succ (E : Nat → Nat → Prop) (k j : Nat) : cpre E k (j + 1) = cpre E k j ++ if (rb E k j && rb E j k) = true then [j] else [] := by
  unfold cpre
  rw [List.range_succ, List.filter_append]
  congr 1
  simp [List.filter_cons]
theorem cpre_all (E : Nat → Nat → Prop) (k m : Nat) : cpre E k m = cmp E m k := rfl
theorem told_less {E : Nat → Nat → Prop} {m k : Nat} {told : Nat → Bool} (hk : k < m) (ht : told k = false) : uns m (fun x => told x || decide (x ∈ cmp E m k)) < uns m told :=
  countP_lt (a := k) (fun x _ hx => by simp at hx ⊢; exact hx.1) (by simpa using hk) (by simp [ht]) (by simp [cmp_self hk])
theorem sf_told {E : Nat → Nat → Prop} {m k : Nat} {told : Nat → Bool} {out : List (List Nat)} (hE : ∀ x y, E x y → x < m ∧ y < m) (h : Sf E m (fun x => told x = true) out) (hl : Lf E m (fun x => told x = true) k) : Sf E m (fun x => (told x || decide (x ∈ cmp E m k)) = true) (out ++ [cmp E m k]) :=
  (h.more hE hl).congr fun x => by simp

/-- The call gave the components in the order in which they are told. -/
def OutPost (w : World) (n : Int) (l : List (Int × Int)) (e : Ending) (w' : World) : Prop := ∃ out, Out (Ed (am n) l) (am n) (fun _ => False) out ∧ ListsPost w out e w'

set_option maxRecDepth 100000 in
set_option maxHeartbeats 4000000 in
theorem rComponents_any (n : Int) (A : Option Addr) (c : Nat) (l : List (Int × Int)) (hl : l.length ≤ 1000) (w : World) (hs : Es w w.heap.size A l) : Calls Tryz.prog 32 #[.int .i64 n, .slice A l.length c] w (OutPost w n l) := by
  obtain ⟨j0, hj, hy0, hy1, hy2⟩ := info_parts info4
  obtain ⟨i0, hi, hz0, hz1, hz2⟩ := info_parts info3
  obtain ⟨i9, hi9, hz90, hz91, hz92⟩ := info_parts info29
  obtain ⟨i8, hi8, hz80, hz81, hz82⟩ := info_parts info38
  have HB := Lib.hid (bound_any n w)
  have HF := Lib.hid (fun (f : Int) W h => From_any n A c l f hl W h)
  have HS := Lib.hid hs
  have HR := Lib.hid (fun i x hi => fr_rb (n := n) (l := l) (i := i) (x := x) hi)
  have hle := am_le n
  have Hm := Lib.hid (rfl : am n = am n)
  unfold OutPost
  have HEd := Lib.hid (ed_in (am n) l)
  generalize Ed (am n) l = E at *
  generalize am n = m at *
  clear Hm hs
  go_enter Tryz.func32, Tryz.ntmps32
  go_wp2_with fail
  refine HB.out.mono ?_
  rintro e w1 ⟨rfl, rfl⟩
  clear HB
  go_wp2
  go_loopg [6, 7] m (fun q v t W => ∃ k : Nat, k + q = m ∧ t = .int .i64 (k : Int) ∧ Hid (Rw W w1.heap.size v k m (rb E)) ∧ Hid (Below w1.heap.size w1 W))
  case atStart => exact ⟨0, by omega, rfl, ⟨[], World.ownsRow_nil _ _ _ _, fun i h => by omega⟩, Below.refl _ _⟩
  case round =>
    obtain ⟨k, hk, rfl, hRw, hB⟩ := hrel
    by_cases hlt : k < m
    · have hki : (k : Int) < (m : Int) := by omega
      have hk0 : (0 : Int) ≤ (k : Int) := by omega
      have HFk := Lib.hid (HF.out (k : Int) wr (HS.out.to hB.out hB.out.size))
      go_wp2_with fail
      refine HFk.out.mono ?_
      rintro e w2 ⟨s, rfl, hSr, hsl, B2⟩
      have hSr2 : Br w2 s (rb E k) m := hSr.congr fun x hx => HR.out k x hlt
      obtain ⟨hs1, ho1, hi1⟩ := hRw.out.up B2
      have B3 : Below w2.heap.size w2 (w2.alloc (.cells #[.slice (some ⟨s, 0, none⟩) m m] 41)) := (Below.refl _ _).alloc (Nat.le_refl _) _
      have HOr := Lib.hid (own_same (w' := w2.alloc (.cells #[.slice (some ⟨s, 0, none⟩) m m] 41)) ho1 fun r hr => heap_alloc_old _ _ (ho1.lt r hr).2)
      have HN := Lib.hid (heap_alloc_new w2 (.cells #[.slice (some ⟨s, 0, none⟩) m m] 41))
      have HI : Hid (∀ i, i < k → ∃ r, hs1[i]? = some (.slice (some ⟨r, 0, none⟩) m m) ∧ Br (w2.alloc (.cells #[.slice (some ⟨s, 0, none⟩) m m] 41)) r (rb E i) m) := fun i hi => by
        obtain ⟨r, k1, k2⟩ := hi1 i hi
        exact ⟨r, k1, Tb.old k2 _⟩
      have HSr : Hid (Br (w2.alloc (.cells #[.slice (some ⟨s, 0, none⟩) m m] 41)) s (rb E k) m) := Tb.old hSr2 _
      have HB2 := Lib.hid ((hB.out.trans (B2.mono hB.out.size)).alloc (Nat.le_trans hB.out.size B2.size) (.cells #[.slice (some ⟨s, 0, none⟩) m m] 41))
      have hz2' : w1.heap.size ≤ w2.heap.size := Nat.le_trans hB.out.size B2.size
      clear ho1 hi1 hSr hSr2 hRw hB HFk B2 B3
      go_wp2_with (at_builtin; refine wpList_append_lies _ rfl _ _ 82 rfl w1.heap.size 41 i8 (.slice none 0 0) 1 24 Tryz.underlying82 hi8 hz80 hz81 hz82 rfl (by decide) u6 k hs1 rfl HOr.out ⟨w2.heap.size, 0, none⟩ 1 1 [.slice (some ⟨s, 0, none⟩) m m] rfl rfl (World.news_of_block HN.out) (by intro u hu; simp at hu; subst hu; rfl) (by decide) (by unfold maxLen; omega) (by omega) (by simp; omega) (w2.heap.size + 1) (by simp) ?_; intro g9 c9 w9 hown9 hgrow9 hat9 hlt9)
      have HRw := Lib.hid (rw_more HOr.out HI.out HSr.out hgrow9 hown9)
      have HB9 := Lib.hid (HB2.out.grown hgrow9 HB2.out.size (fun r hr => (HOr.out.lt r hr).1))
      clear hown9 hgrow9 hat9
      go_wp2
      go_roundg (m - (k + 1))
      case measure => omega
      case rel => exact ⟨k + 1, by omega, by go_num, HRw.out, HB9.out⟩
    · obtain rfl : m = k := by omega
      obtain ⟨V, hV⟩ : ∃ V, V = wr := ⟨_, rfl⟩
      subst hV
      go_wp2_with (first | (at_make; refine wpList_make_full _ rfl _ _ 41 rfl V.heap.size 4 j0 (.bool false) 1 (by kernel_rfl) hj hy0 hy1 _ _ _ _ m rfl rfl rfl rfl (by rw [hy2]; omega) (by unfold maxLen; omega) (Nat.le_refl _) ?_; intro w4 hown4 hgrow4))
      have HT4 : Hid (Br w4 V.heap.size (fun _ => false) m) := tb_made hown4 rfl
      have HB4 : Hid (Below V.heap.size V w4) := (Below.refl _ _).grown hgrow4 (Nat.le_refl _) (by simp)
      clear hown4 hgrow4
      go_loopg [9, 10] (uns m (fun _ => false) + m) (fun q ov t W => ∃ (k : Nat) (told : Nat → Bool) (out : List (List Nat)), t = .int .i64 (k : Int) ∧ k ≤ m ∧ Hid (uns m told + (m - k) ≤ q) ∧ Hid (uns m told + out.length ≤ m) ∧ Hid (∀ j, j < k → told j = true) ∧ Hid (Sf E m (fun x => told x = true) out) ∧ Hid (Br W V.heap.size told m) ∧ Hid (Pr W V.heap.size ov out) ∧ Hid (Below V.heap.size V W))
      case atStart =>
        refine ⟨0, fun _ => false, [], rfl, Nat.zero_le _, by show _ ≤ _; omega, ?_, fun j h => by omega, ?_, HT4.out, ⟨[], World.ownsRow_nil _ _ _ _, fun i p h => by simp at h⟩, HB4.out⟩
        · have := uns_le (m := m) (fun _ => false)
          show _ ≤ _
          simp; exact this
        · exact (Sf.start (E := E) (m := m)).congr fun x => by simp
      case round =>
        obtain ⟨k, told, out, rfl, hk, hms, hlen, hup, hSf, hT, hPr, hBV⟩ := hrel
        by_cases hlt : k < m
        · have hki : (k : Int) < (m : Int) := by omega
          have hk0 : (0 : Int) ≤ (k : Int) := by omega
          have cT := hT.out.cell hlt
          rcases htk : told k with _ | _
          · rw [htk] at cT
            have Htk := Lib.hid htk
            obtain ⟨gf, cf, R, rfl, hcell⟩ := hRw.out.cells (by omega)
            have HC := Lib.hid (hcell wr hBV.out)
            clear htk
            go_wp2
            go_loopg [11, 12] m (fun q nv t W => ∃ i : Nat, i + q = m ∧ t = .int .i64 (i : Int) ∧ W = wr ∧ ((nv = .int .i64 (-1) ∧ Hid (∀ j, j < i → ¬ (told j = false ∧ Fr E m (fun x => told x = true) j))) ∨ ∃ k0 : Nat, nv = .int .i64 (k0 : Int) ∧ Hid (Lf E m (fun x => told x = true) k0)))
            case atStart => exact ⟨0, by omega, rfl, rfl, .inl ⟨rfl, fun j h => by omega⟩⟩
            case round =>
              obtain ⟨i, hiq, rfl, hW, hnx⟩ := hrel
              subst hW
              clear cT
              rcases hnx with ⟨rfl, hno⟩ | ⟨k0, rfl, hLf⟩
              · by_cases hlt3 : i < m
                · have hii : (i : Int) < (m : Int) := by omega
                  have hi00 : (0 : Int) ≤ (i : Int) := by omega
                  have cTi := hT.out.cell hlt3
                  go_wp2
                  go_loopg [13, 14] m (fun q fv t W => ∃ (j : Nat) (fb : Bool), j + q = m ∧ fv = .bool fb ∧ t = .int .i64 (j : Int) ∧ W = wr ∧ Hid (fb = true ↔ told i = false ∧ ∀ y, y < j → (rb E i y && !rb E y i && !told y) = false))
                  case atStart => exact ⟨0, !told i, by omega, rfl, rfl, rfl, by show _ ↔ _; simp⟩
                  case round =>
                    obtain ⟨j, fb, hjq, rfl, rfl, hW, hfb⟩ := hrel
                    subst hW
                    clear cTi
                    by_cases hlt4 : j < m
                    · have hji : (j : Int) < (m : Int) := by omega
                      have hj00 : (0 : Int) ≤ (j : Int) := by omega
                      obtain ⟨c1, c2⟩ := HC.out i j hlt3 hlt4
                      obtain ⟨c3, c4⟩ := HC.out j i hlt4 hlt3
                      have c5 := hT.out.cell hlt4
                      have NX : Hid ((rb E i j && !rb E j i && !told j) = false → (fb = true ↔ told i = false ∧ ∀ y, y < j + 1 → (rb E i y && !rb E y i && !told y) = false)) := fun e => by
                        rw [hfb.out]
                        refine and_congr_right fun _ => ⟨fun h y hy => ?_, fun h y hy => h y (by omega)⟩
                        rcases Nat.lt_or_ge y j with h' | h'
                        · exact h y h'
                        · obtain rfl : y = j := by omega
                          exact e
                      have NF : Hid ((rb E i j && !rb E j i && !told j) = true → (false = true ↔ told i = false ∧ ∀ y, y < j + 1 → (rb E i y && !rb E y i && !told y) = false)) := fun e =>
                        ⟨fun h => (by cases h), fun h => by rw [h.2 j (by omega)] at e; cases e⟩
                      generalize rb E i j = f1 at *
                      generalize rb E j i = f2 at *
                      generalize told j = f3 at *
                      rcases f1 with _ | _
                      · have NX2 := Lib.hid (NX.out rfl)
                        clear NX NF
                        go_wp2
                        go_roundg (m - (j + 1))
                        case measure => omega
                        case rel => exact ⟨j + 1, fb, by omega, rfl, by go_num, rfl, NX2.out⟩
                      · rcases f2 with _ | _
                        · rcases f3 with _ | _
                          · have NX2 := Lib.hid (NF.out rfl)
                            clear NX NF
                            go_wp2
                            go_roundg (m - (j + 1))
                            case measure => omega
                            case rel => exact ⟨j + 1, false, by omega, rfl, by go_num, rfl, NX2.out⟩
                          · have NX2 := Lib.hid (NX.out rfl)
                            clear NX NF
                            go_wp2
                            go_roundg (m - (j + 1))
                            case measure => omega
                            case rel => exact ⟨j + 1, fb, by omega, rfl, by go_num, rfl, NX2.out⟩
                        · have NX2 := Lib.hid (NX.out rfl)
                          clear NX NF
                          go_wp2
                          go_roundg (m - (j + 1))
                          case measure => omega
                          case rel => exact ⟨j + 1, fb, by omega, rfl, by go_num, rfl, NX2.out⟩
                    · obtain rfl : m = j := by omega
                      rcases fb with _ | _
                      · have hno2 : Hid (∀ j, j < i + 1 → ¬ (told j = false ∧ Fr E m (fun x => told x = true) j)) := fun j hj hf => by
                          rcases Nat.lt_or_ge j i with h | h
                          · exact hno.out j h hf
                          · obtain rfl : j = i := by omega
                            exact absurd (hfb.out.2 ⟨hf.1, fr_free hf.2⟩) (by decide)
                        go_wp2
                        go_roundg (m - (i + 1))
                        case measure => omega
                        case rel => exact ⟨i + 1, by omega, by go_num, rfl, .inl ⟨rfl, hno2.out⟩⟩
                      · have hLf : Hid (Lf E m (fun x => told x = true) i) := by
                          obtain ⟨h1, h2⟩ := hfb.out.1 rfl
                          exact ⟨hlt3, by simp [h1], free_fr h2, fun j hj hn hf => hno.out j hj ⟨by simpa using hn, hf⟩⟩
                        go_wp2
                        go_roundg (m - (i + 1))
                        case measure => omega
                        case rel => exact ⟨i + 1, by omega, by go_num, rfl, .inr ⟨i, rfl, hLf.out⟩⟩
                · obtain rfl : m = i := by omega
                  exfalso
                  obtain ⟨k1, h1⟩ := some_least (E := E) (T := fun x => told x = true) hlt (by rw [Htk.out]; simp)
                  exact hno.out k1 h1.1 ⟨by simpa using h1.2.1, h1.2.2.1⟩
              · have hk0m := hLf.out.1
                have hk00 : (0 : Int) ≤ (k0 : Int) := by omega
                have hk0n : decide ((k0 : Int) < 0) = false := decide_eq_false (by omega)
                have hk0i : (k0 : Int) < (m : Int) := by omega
                have hT0 : wr.heap[V.heap.size]? = some (.cells (tab (fun j => .bool (told j)) m) 4 (0, 0)) := hT.out
                have HT0 := Lib.hid hT0
                have HZ := Lib.hid hBV.out.size
                have hVU := Tb.lt hT.out
                have htk0 : Hid (told k0 = false) := by have := hLf.out.2.1; show _ = _; simpa using this
                clear hT0
                obtain ⟨U, hU⟩ : ∃ U, U = wr := ⟨_, rfl⟩
                subst hU
                by_cases hii : (i : Int) < (m : Int)
                case' neg => have hid := decide_eq_false hii
                all_goals
                  go_wp2
                  go_loopg [15, 16] m (fun q cv t W => ∃ (j : Nat) (told2 : Nat → Bool), j + q = m ∧ t = .int .i64 (j : Int) ∧ Hid (W.ownsRow U.heap.size 3 1 cv (cpre E k0 j).length (iv (cpre E k0 j))) ∧ Hid (Br W V.heap.size told2 m) ∧ Hid (∀ x, told2 x = (told x || decide (x ∈ cpre E k0 j))) ∧ Hid (Off (· = V.heap.size) U W))
                  case atStart => exact ⟨0, told, by omega, rfl, World.ownsRow_nil _ _ _ _, hT.out, fun x => by simp [cpre], Off.refl _ _⟩
                  case round =>
                    obtain ⟨j, told2, hjq, rfl, hown, hT2, hto, hO⟩ := hrel
                    have hBW : Hid (Below V.heap.size V wr) := hBV.out.trans (hO.out.below (by rintro r rfl; exact Nat.le_refl _) HZ.out)
                    have hcl := cpre_len E k0 j
                    by_cases hlt5 : j < m
                    · have hji : (j : Int) < (m : Int) := by omega
                      have hj00 : (0 : Int) ≤ (j : Int) := by omega
                      obtain ⟨c1, c2⟩ := hcell wr hBW.out k0 j hk0m hlt5
                      obtain ⟨c3, c4⟩ := hcell wr hBW.out j k0 hlt5 hk0m
                      have HSc := Lib.hid (cpre_succ E k0 j)
                      have NX : Hid ((rb E k0 j && rb E j k0) = false → cpre E k0 (j + 1) = cpre E k0 j) := fun e => by
                        rw [HSc.out, e]; simp
                      have NY : Hid ((rb E k0 j && rb E j k0) = true → cpre E k0 (j + 1) = cpre E k0 j ++ [j]) := fun e => by
                        rw [HSc.out, e]; simp
                      clear HSc
                      generalize rb E k0 j = f1 at *
                      generalize rb E j k0 = f2 at *
                      rcases f1 with _ | _
                      · have NX2 := Lib.hid (NX.out rfl)
                        clear NX NY
                        go_wp2
                        go_roundg (m - (j + 1))
                        case measure => omega
                        case rel => exact ⟨j + 1, told2, by omega, by go_num, by rw [NX2.out]; exact hown.out, hT2.out, by rw [NX2.out]; exact hto.out, hO.out⟩
                      · rcases f2 with _ | _
                        · have NX2 := Lib.hid (NX.out rfl)
                          clear NX NY
                          go_wp2
                          go_roundg (m - (j + 1))
                          case measure => omega
                          case rel => exact ⟨j + 1, told2, by omega, by go_num, by rw [NX2.out]; exact hown.out, hT2.out, by rw [NX2.out]; exact hto.out, hO.out⟩
                        · have NX2 := Lib.hid (NY.out rfl)
                          clear NX NY
                          have HOr := Lib.hid (own_same (w' := wr.alloc (.cells #[.int .i64 (j : Int)] 3)) hown.out fun r hr => heap_alloc_old _ _ (hown.out.lt r hr).2)
                          have HN := Lib.hid (heap_alloc_new wr (.cells #[.int .i64 (j : Int)] 3))
                          have HT5 : Hid (Br (wr.alloc (.cells #[.int .i64 (j : Int)] 3)) V.heap.size told2 m) := Tb.old hT2.out _
                          have HO5 := Lib.hid (hO.out.alloc (.cells #[.int .i64 (j : Int)] 3))
                          have hz5 := hO.out.size
                          clear hown hT2 hO
                          go_wp2_with (at_builtin; refine wpList_append_lies _ rfl _ _ 26 rfl U.heap.size 3 i0 (.int .i64 0) 1 8 Tryz.underlying26 hi hz0 hz1 hz2 rfl (by decide) u15 (cpre E k0 j).length (iv (cpre E k0 j)) rfl HOr.out ⟨wr.heap.size, 0, none⟩ 1 1 [.int .i64 (j : Int)] rfl rfl (World.news_of_block HN.out) (by intro u hu; simp at hu; subst hu; rfl) (by decide) (by unfold maxLen; omega) (by omega) (by simp; omega) (wr.heap.size + 1) (by simp) ?_; intro g' c' w5 hown5 hgrow hat hgl5; have HT6 : Hid (Br w5 V.heap.size told2 m) := Tb.same HT5.out (hgrow.block _ (Tb.lt HT5.out) (own_tag HOr.out (show (wr.alloc (.cells #[.int .i64 (j : Int)] 3)).heap[V.heap.size]? = some (.cells (tab (fun j => .bool (told2 j)) m) 4 (0, 0)) from HT5.out) (by decide))); have f6 := Tb.free HT6.out j; have c6 := HT6.out.cell hlt5)
                          have H8 : Hid ((w5.setCell ⟨V.heap.size, j, none⟩ (.bool true)).ownsRow U.heap.size 3 1 (.slice (some ⟨g', 0, none⟩) ((cpre E k0 j).length + 1) c') (cpre E k0 (j + 1)).length (iv (cpre E k0 (j + 1)))) := by
                            show World.ownsRow _ _ _ _ _ _ _
                            rw [NX2.out, iv_snoc, List.length_append]
                            exact own_same hown5 fun r hr => Below.heap_setCell _ _ _ r (by have := (hown5.lt r hr).1; show r ≠ V.heap.size; omega)
                          have H9 := Lib.hid (HT6.out.upd j)
                          have H10 : Hid (∀ x, upd told2 j x = (told x || decide (x ∈ cpre E k0 (j + 1)))) := fun x => by
                            rw [NX2.out, upd, hto.out]
                            simp only [List.mem_append, List.mem_singleton, Bool.decide_or, Bool.or_assoc]
                            congr 2
                          have H11 := Lib.hid ((HO5.out.grown hgrow (fun r hr => .inr (HOr.out.lt r hr).1)).set (p := ⟨V.heap.size, j, none⟩) (.inl rfl) (.bool true))
                          clear hown5 hgrow hat f6 c6
                          go_wp2
                          go_roundg (m - (j + 1))
                          case measure => omega
                          case rel => exact ⟨j + 1, upd told2 j, by omega, by go_num, H8.out, H9.out, H10.out, H11.out⟩
                    · obtain rfl : m = j := by omega
                      have hown' : wr.ownsRow U.heap.size 3 1 u15 (cmp E m k0).length (iv (cmp E m k0)) := hown.out
                      have hne : (cmp E m k0).length ≠ 0 := fun e => by
                        have := cmp_self (E := E) hk0m
                        rw [List.length_eq_zero_iff.1 e] at this
                        simp at this
                      obtain ⟨gc, cc, rfl⟩ : ∃ gc cc, u15 = .slice (some ⟨gc, 0, none⟩) (cmp E m k0).length cc := by
                        rcases hown'.2 with ⟨_, h0⟩ | ⟨g, cap, cur, h, _⟩
                        · exact absurd h0 hne
                        · exact ⟨g, cap, h⟩
                      have hIr : Jr V.heap.size wr (.slice (some ⟨gc, 0, none⟩) (cmp E m k0).length cc) (cmp E m k0) := ⟨ir_own hown' rfl, fun r hr => by obtain rfl : gc = r := Option.some.inj hr; have := (hown'.lt gc rfl).1; omega⟩
                      obtain ⟨hs2, ho2, hi2⟩ := hPr.out.off hO.out HT0.out
                      have b0 : Below wr.heap.size wr (wr.alloc (.cells #[.slice (some ⟨gc, 0, none⟩) (cmp E m k0).length cc] 26)) := (Below.refl _ _).alloc (Nat.le_refl _) _
                      have HOr := Lib.hid (own_same (w' := wr.alloc (.cells #[.slice (some ⟨gc, 0, none⟩) (cmp E m k0).length cc] 26)) ho2 fun r hr => heap_alloc_old _ _ (ho2.lt r hr).2)
                      have HN := Lib.hid (heap_alloc_new wr (.cells #[.slice (some ⟨gc, 0, none⟩) (cmp E m k0).length cc] 26))
                      have HI2 : Hid (∀ (i : Nat) (p : List Nat), out[i]? = some p → ∃ h, hs2[i]? = some h ∧ Jr V.heap.size (wr.alloc (.cells #[.slice (some ⟨gc, 0, none⟩) (cmp E m k0).length cc] 26)) h p) := fun i p hp => by
                        obtain ⟨y, k1, k2⟩ := hi2 i p hp
                        exact ⟨y, k1, k2.ut (Ut.of_below b0)⟩
                      have HIr := Lib.hid (hIr.ut (Ut.of_below b0))
                      have Hhl : Hid (hs2.length = out.length) := by have := ho2.1; show _ = _; omega
                      have HT5 : Hid (Br (wr.alloc (.cells #[.slice (some ⟨gc, 0, none⟩) (cmp E m k0).length cc] 26)) V.heap.size told2 m) := Tb.old hT2.out _
                      have HB5 := Lib.hid (hBW.out.alloc hBW.out.size (.cells #[.slice (some ⟨gc, 0, none⟩) (cmp E m k0).length cc] 26))
                      have hol : out.length ≤ 1000 := by have := hlen.out; omega
                      have hzz := hBW.out.size
                      have hcm := cmp_len (E := E) m k0
                      have HSf := Lib.hid (sf_told HEd.out hSf.out hLf.out)
                      have HL := Lib.hid (told_less (E := E) hk0m htk0.out)
                      have Hto : Hid (∀ x, told2 x = (told x || decide (x ∈ cmp E m k0))) := hto.out
                      clear hown hown' hIr hi2 ho2 b0 hO hT2 hne hto
                      generalize cmp E m k0 = cm at *
                      go_wp2_with (at_builtin; refine wpList_append_lies _ rfl _ _ 54 rfl V.heap.size 26 i9 (.slice none 0 0) 1 24 Tryz.underlying54 hi9 hz90 hz91 hz92 rfl (by decide) u9 out.length hs2 rfl HOr.out ⟨wr.heap.size, 0, none⟩ 1 1 [.slice (some ⟨gc, 0, none⟩) cm.length cc] rfl rfl (World.news_of_block HN.out) (by intro u hu; simp at hu; subst hu; rfl) (by decide) (by unfold maxLen; omega) (by omega) (by simp; omega) (wr.heap.size + 1) (by simp) ?_; intro g9 c9 w9 hown9 hgrow9 hat9 hlt9)
                      have HP9 := Lib.hid (pr_more HI2.out Hhl.out HIr.out hgrow9 (own_row HOr.out) hown9 rfl)
                      have HT9 : Hid (Br w9 V.heap.size (fun x => told x || decide (x ∈ cm)) m) := (Br.congr (Tb.same HT5.out (hgrow9.block _ (Tb.lt HT5.out) (own_tag HOr.out (show (wr.alloc (.cells #[.slice (some ⟨gc, 0, none⟩) cm.length cc] 26)).heap[V.heap.size]? = some (.cells (tab (fun j => .bool (told2 j)) m) 4 (0, 0)) from HT5.out) (by decide)))) fun x _ => Hto.out x)
                      have HB9 := Lib.hid (HB5.out.grown hgrow9 HB5.out.size (fun r hr => (HOr.out.lt r hr).1))
                      have HL2 : Hid (uns m (fun x => told x || decide (x ∈ cm)) + (out ++ [cm]).length ≤ m) := by
                        have h1 := HL.out
                        have h2 := hlen.out
                        show _ ≤ _
                        rw [List.length_append, List.length_singleton]
                        omega
                      have HUP : Hid (∀ j, j < k → (told j || decide (j ∈ cm)) = true) := fun j hj => by rw [hup.out j hj]; rfl
                      clear hown9 hgrow9 hat9
                      go_wp2
                      go_roundg (uns m (fun x => told x || decide (x ∈ cm)) + (m - k))
                      case measure => have h1 := hms.out; have h2 := HL.out; omega
                      case rel => exact ⟨k, _, out ++ [cm], rfl, by omega, Nat.le_refl _, HL2.out, HUP.out, HSf.out, HT9.out, HP9.out, HB9.out⟩
          · rw [htk] at cT
            have hup2 : Hid (∀ j, j < k + 1 → told j = true) := fun j hj => by
              rcases Nat.lt_or_ge j k with h | h
              · exact hup.out j h
              · obtain rfl : j = k := by omega
                exact htk
            clear htk
            go_wp2
            go_roundg (uns m told + (m - (k + 1)))
            case measure => have := hms.out; omega
            case rel => exact ⟨k + 1, told, out, by go_num, by omega, Nat.le_refl _, hlen.out, hup2.out, hSf.out, hT.out, hPr.out, hBV.out⟩
        · obtain rfl : m = k := by omega
          have hO : Hid (Out E m (fun _ => False) out) := hSf.out.end_ hup.out
          obtain ⟨Ao, co, rfl, _⟩ := hPr.out.form
          have hL := Lib.hid hPr.out.ll
          have hBw := Lib.hid (hB.out.trans (hBV.out.mono hB.out.size))
          go_wp2
          go_ret
          exact ⟨out, hO.out, Ao, co, rfl, hL.out, hBw.out⟩

end Go.Proofs.YtgpciipemgljcaaGreat.Gp

/-
  The walk of the document's Ready. Conditions: at most 100 nodes, of which at most 30 count; at most 7 deps each; at most 1000 that were done.
-/
namespace Go.Proofs.YtgpciipemgljcaaGreat.Od
open Go.RowKit
open Go.Proofs.YtgpciipemgljcaaGreat.Gp (Es Ed am Out zs zs_len Ll)
set_option linter.unusedVariables false

set_option maxRecDepth 100000 in
set_option maxHeartbeats 4000000 in
theorem rReady_any (A : Option Addr) (c : Nat) (l : List No) (hl : l.length ≤ 100) (Ad : Option Addr) (cd : Nat) (D : List Is) (hD : D.length ≤ 1000) (hf : Wf l) (h7 : F7 l) (h30 : (cs l D).length ≤ 30) (w : World) (hs : Nl w w.heap.size A l) (hd : Dl w w.heap.size l) (hi : Il w w.heap.size Ad D) :
    Calls Tryz.prog 13 #[.slice A l.length c, .slice Ad D.length cd] w (RdPost w (rd (cs l D) D)) := by
  obtain ⟨i0, hi0, hz0, hz1, hz2⟩ := info_parts info30
  have HC := Lib.hid (Count_any A c l hl (fun n hn => by have := h7 n hn; omega) Ad cd D hD w hs hd hi)
  have HDc := Lib.hid (hd.sub fun n (hn : n ∈ cs l D) => cs_in hn)
  have HDr := Lib.hid (hd.sub fun n (hn : n ∈ rd (cs l D) D) => cs_in (rd_in hn))
  have HDn := Lib.hid hi
  have hWc : Wf (cs l D) := hf.sub fun n hn => cs_in hn
  have hWr : Wf (rd (cs l D) D) := hf.sub fun n hn => cs_in (rd_in hn)
  have hms : Wd (ms (cs l D) D) := fun i hi => by
    have := mem_ax.1 (mem_ms.1 hi).1
    unfold fi fits
    omega
  have hrl : (rd (cs l D) D).length ≤ 30 := Nat.le_trans (rdk_len _ _ _) h30
  have HMi : ∀ W A' c', Nl W W.heap.size A' (cs l D) → Below w.heap.size w W → Hid (Calls Tryz.prog 31 #[.slice A' (cs l D).length c', .slice Ad D.length cd] W (IsPost W (ms (cs l D) D))) := fun W A' c' hN hB =>
    rmissing_any A' c' (cs l D) (by omega) Ad cd D hD W hN (HDc.out.to hB hB.size) (HDn.out.to hB hB.size)
  have HRy : ∀ W A' c' Am cm, Nl W W.heap.size A' (cs l D) → Il W W.heap.size Am (ms (cs l D) D) → Below w.heap.size w W → Hid (Calls Tryz.prog 30 #[.slice A' (cs l D).length c', .slice Am (ms (cs l D) D).length cm] W (NlPost W (rd (cs l D) D))) := fun W A' c' Am cm hN hI hB =>
    rready_any A' c' (cs l D) D h30 hWc Am cm hms W hN (HDc.out.to hB hB.size) hI
  have HEd : ∀ W A' c', Nl W W.heap.size A' (rd (cs l D) D) → Below w.heap.size w W → Hid (Calls Tryz.prog 33 #[.slice A' (rd (cs l D) D).length c'] W (EsPost W (ee (rd (cs l D) D)))) := fun W A' c' hN hB =>
    redges_any A' c' _ (by omega) hWr W hN (HDr.out.to hB hB.size)
  have hRi : Ri (rd (cs l D) D) := rd_ri l D
  generalize rd (cs l D) D = r at *
  generalize ms (cs l D) D = mm at *
  generalize cs l D = cl at *
  clear hs hd hi h7 hf hms hWc hWr HDc HDr HDn
  go_enter Tryz.func13, Tryz.ntmps13
  go_wp2_with fail
  refine HC.out.mono ?_
  rintro e w1 ⟨v1, rfl, ho1, b1⟩
  obtain ⟨A1, c1, rfl, hN1, -⟩ := own_nl ho1
  have HM1 := HMi w1 A1 c1 hN1 b1
  have HN1 := Lib.hid hN1
  have HB1 := Lib.hid b1
  clear HC HMi ho1 hN1 b1
  go_wp2_with fail
  refine HM1.out.mono ?_
  rintro e w2 ⟨v2, rfl, ho2, b2⟩
  obtain ⟨A2, c2, rfl, hI2, -⟩ := own_il ho2
  have HB2 := Lib.hid (HB1.out.trans (b2.mono HB1.out.size))
  have HR2 := HRy w2 A1 c1 A2 c2 (HN1.out.to b2 b2.size) hI2 HB2.out
  clear HM1 HRy ho2 hI2 b2 HN1 HB1
  go_wp2_with fail
  refine HR2.out.mono ?_
  rintro e w3 ⟨v3, rfl, ho3, b3⟩
  obtain ⟨A3, c3, rfl, hN3, -⟩ := own_nl ho3
  have HB3 := Lib.hid (HB2.out.trans (b3.mono HB2.out.size))
  have HE3 := HEd w3 A3 c3 hN3 HB3.out
  have HN3 := Lib.hid hN3
  clear HR2 HEd ho3 hN3 b3 HB2
  go_wp2_with fail
  refine HE3.out.mono ?_
  rintro e w4 ⟨A4, c4, rfl, hE4, b4⟩
  have HB4 := Lib.hid (HB3.out.trans (b4.mono HB3.out.size))
  have HCo := Lib.hid (Gp.rComponents_any (r.length : Int) A4 c4 (ee r) (ee_len hrl) w4 hE4)
  have HN4 := Lib.hid (HN3.out.to b4 b4.size)
  have HEq := Lib.hid (show Ed (am (r.length : Int)) (ee r) = Wg r from ed_ee (by omega))
  have HAm := Lib.hid (show am (r.length : Int) = r.length from am_len (by omega))
  clear HE3 hE4 b4 HN3 HB3
  generalize ee r = E at *
  go_wp2_with fail
  refine HCo.out.mono ?_
  rintro e w5 ⟨parts, hO, A5, c5, rfl, hL5, b5⟩
  rw [HEq.out, HAm.out] at hO
  have HO := Lib.hid hO
  have hP := Pts.of (wg_in r) hO
  have hpn : parts.length ≤ 30 := Nat.le_trans hO.len hrl
  have HB5 := Lib.hid (HB4.out.trans (b5.mono HB4.out.size))
  have HN5 := Lib.hid (HN4.out.to b5 b5.size)
  have HLl := Lib.hid hL5
  have HPl := Lib.hid (fun (p : List Nat) (hp : p ∈ parts) => (⟨hP.len p hp, hP.inn p hp, hRi.ds (hP.nd p hp)⟩ : p.length ≤ r.length ∧ (∀ x ∈ p, x < r.length) ∧ Ds (pn r p)))
  have HAll := Lib.hid (odk_all r parts)
  have hodl : ∀ k, k ≤ 30 → (odk r parts k).length ≤ 900 := fun k hk => by
    have h1 := odk_len (r := r) hP.len k
    have h2 : k * r.length ≤ 30 * 30 := Nat.mul_le_mul hk hrl
    omega
  have HOdl := Lib.hid hodl
  clear HCo hO hP hL5 b5 HN4 HEq HAm HB4 hodl hRi
  go_wp2
  go_loopg [8, 9] parts.length (fun q v t W => ∃ k : Nat, k + q = parts.length ∧ t = .int .i64 (k : Int) ∧ Hid (W.ownsRow w5.heap.size 25 2 v (odk r parts k).length (ics (odk r parts k))) ∧ Hid (Below w5.heap.size w5 W))
  case atStart => exact ⟨0, by omega, rfl, by rw [odk_zero]; exact World.ownsRow_nil _ _ _ _, Below.refl _ _⟩
  case round =>
    obtain ⟨k, hk, rfl, hrow, hB⟩ := hrel
    by_cases hlt : k < parts.length
    · have hki : (k : Int) < (parts.length : Int) := by omega
      have hk0 : (0 : Int) ≤ (k : Int) := by omega
      have HOk := Lib.hid (odk_succ (r := r) (List.getElem?_eq_getElem hlt))
      obtain ⟨hpl0, hpin, hds⟩ := HPl.out _ (List.getElem_mem hlt)
      have hpl : parts[k].length ≤ 30 := by omega
      have HPin := Lib.hid hpin
      have HDs := Lib.hid hds
      have hodk := HOdl.out k (by omega)
      have hpn2 : (pn r parts[k]).length ≤ 30 := Nat.le_trans (pn_len _ _) hpl
      have hkz : k < (parts.map zs).length := by simpa using hlt
      obtain ⟨b5, off5, A', c', rfl, hb5, pc, hSl⟩ := HLl.out.at_ hkz
      have hek : (parts.map zs)[k] = zs parts[k] := by simp
      rw [hek] at pc hSl
      rw [zs_len] at pc
      have HSl := Lib.hid hSl
      have HPc := Lib.hid pc
      generalize parts[k] = p at *
      obtain ⟨V, hV⟩ : ∃ V, V = wr := ⟨_, rfl⟩
      subst hV
      have hBs := hB.out.size
      clear pc hSl hek hkz hpl0 hpin hds
      go_wp2
      go_loopg [10, 11] p.length (fun q v t W => ∃ j : Nat, j + q = p.length ∧ t = .int .i64 (j : Int) ∧ Hid (W.ownsRow V.heap.size 30 4 v (pn r (p.take j)).length (ncs (pn r (p.take j)))) ∧ Hid (Below V.heap.size V W))
      case atStart => exact ⟨0, by omega, rfl, World.ownsRow_nil _ _ _ _, Below.refl _ _⟩
      case round =>
        obtain ⟨j, hj, rfl, hrow2, hB2⟩ := hrel
        have HBr := Lib.hid (hB.out.trans (hB2.out.mono hBs))
        have pc : wr.cell? ⟨b5, off5 + k, none⟩ = some (.slice A' p.length c') := (HBr.out.cell (p := ⟨b5, off5 + k, none⟩) hb5).trans HPc.out
        by_cases hjt : j < p.length
        · have hji : (j : Int) < (p.length : Int) := by omega
          have hj0 : (0 : Int) ≤ (j : Int) := by omega
          have hjz : j < (zs p).length := by rw [zs_len]; exact hjt
          obtain ⟨b6, off6, rfl, hb6, px⟩ := (HSl.out.below HBr.out).at_ hjz
          have hex : (zs p)[j] = ((p[j] : Nat) : Int) := by simp [zs]
          rw [hex] at px
          have hxr := HPin.out _ (List.getElem_mem hjt)
          have HY := Lib.hid (List.getElem?_eq_getElem hxr)
          have HTk := Lib.hid (pn_take (List.getElem?_eq_getElem hjt) HY.out)
          have hpj : (pn r (p.take j)).length ≤ 30 := Nat.le_trans (pn_len _ _) (Nat.le_trans (List.length_take_le _ _) (by omega))
          generalize p[j] = x at *
          have hxi : (x : Int) < (r.length : Int) := by omega
          have hx0 : (0 : Int) ≤ (x : Int) := by omega
          obtain ⟨b, off, rfl, hbl, p0, p1, p2, p3⟩ := (HN5.out.below HBr.out (Nat.le_refl _)).at_ HY.out
          generalize r[x] = y at *
          obtain ⟨yb, ys, yq, yd, yh, yc⟩ := y
          simp only at *
          have H10 := Lib.hid (hrow2.out.alloc (no ⟨yb, ys, yq, yd, yh, yc⟩))
          have HB7 := Lib.hid (hB2.out.alloc hB2.out.size (no ⟨yb, ys, yq, yd, yh, yc⟩))
          have hsz := hB2.out.size
          simp only [no] at H10 HB7
          clear hrow2 hB2 HBr hex hjz
          go_wp2_with (at_builtin; refine wpList_append_own_at _ rfl _ _ 22 rfl V.heap.size 30 i0 (.agg #[.int .i64 0, .int .i64 0, .int .i64 0, .slice none 0 0]) 4 48 Tryz.underlying22 hi0 hz0 hz1 hz2 rfl (by decide) _ (pn r (p.take j)).length (ncs (pn r (p.take j))) rfl H10.out ⟨wr.heap.size, 0, none⟩ 1 1 [.int .i64 yb, .int .i64 ys, .int .i64 yq, .slice yh yd.length yc] rfl rfl (cell_four_new _ _ _ _ _ _) (by simp [Value.oneCell']) (by unfold maxLen; omega) (by omega) (by simp; omega) ?_; intro v' w9 hown9 hgrow9 hx9 hat9)
          have HB9 := Lib.hid (HB7.out.grown hgrow9 HB7.out.size (fun r hr => (H10.out.lt r hr).1))
          have H11 : Hid (w9.ownsRow V.heap.size 30 4 v' (pn r (p.take (j + 1))).length (ncs (pn r (p.take (j + 1))))) := by
            show World.ownsRow _ _ _ _ _ _ _
            rw [HTk.out, List.length_append, ncs_append]
            exact hown9
          clear hown9 hgrow9 H10 HB7 hx9 hat9
          go_wp2
          go_roundg (p.length - (j + 1))
          case measure => omega
          case rel => exact ⟨j + 1, by omega, by go_num, H11.out, HB9.out⟩
        · obtain rfl : j = p.length := by omega
          rw [List.take_length] at hrow2
          obtain ⟨A6, c6, rfl, hN6, -⟩ := own_nl hrow2.out
          have HSo := Lib.hid (rsorted_any A6 c6 (pn r p) (by omega) HDs.out wr hN6)
          have hsol : (so (pn r p)).length ≤ 30 := by rw [so_len]; exact hpn2
          have hrw := Lib.hid (ownk hrow.out hB2.out)
          clear hrow2 hN6 hrow hB2 HDs
          generalize pn r p = pp at *
          generalize so pp = sp at *
          go_wp2_with fail
          refine HSo.out.mono ?_
          rintro e w6 ⟨v6, rfl, ho6, b6⟩
          obtain ⟨A7, c7, rfl, hN7, -⟩ := own_nl ho6
          have HIn := Lib.hid (insts_any A7 c7 sp (by omega) w6 hN7)
          have HB6 := Lib.hid (HBr.out.trans (b6.mono HBr.out.size))
          have hrw6 := Lib.hid (ownk hrw.out b6)
          clear HSo ho6 hN7 b6 hrw HBr
          have hspl : (sp.map No.i).length ≤ 30 := by rw [List.length_map]; exact hsol
          generalize sp.map No.i = si at *
          go_wp2_with fail
          refine HIn.out.mono ?_
          rintro e w7 ⟨v7, rfl, ho7, b7⟩
          obtain ⟨A8, c8, rfl, hI8, -⟩ := own_il ho7
          have HB7 := Lib.hid (HB6.out.trans (b7.mono HB6.out.size))
          have hrw7 := Lib.hid (ownk hrw6.out b7)
          have HI8 := Lib.hid hI8
          clear HIn ho7 hI8 b7 hrw6 HB6
          have hsz := HB7.out.size
          go_wp2_with (at_builtin; refine wpList_appI rfl (.tmp 53) (.tmp 56) rfl _ (by rfl) (odk r parts k) w5.heap.size hrw7.out A8 si.length c8 (by rfl) si rfl w7.heap.size HI8.out (by omega) hsz ?_; intro v9 w9 own9 grow9)
          have HB9 := Lib.hid (HB7.out.grown grow9 hsz (fun r hr => (hrw7.out.lt r hr).1))
          have H11 : Hid (w9.ownsRow w5.heap.size 25 2 v9 (odk r parts (k + 1)).length (ics (odk r parts (k + 1)))) := by
            show World.ownsRow _ _ _ _ _ _ _
            rw [HOk.out]
            exact own9
          clear own9 grow9 hrw7 HB7 HI8
          go_wp2
          go_roundg (parts.length - (k + 1))
          case measure => omega
          case rel => exact ⟨k + 1, by omega, by go_num, H11.out, HB9.out⟩
    · obtain rfl : k = parts.length := by omega
      have HX : Hid (∃ o, RdO r o ∧ wr.ownsRow w.heap.size 25 2 u8 o.length (ics o)) := by
        show ∃ o, _
        refine ⟨_, ⟨parts, HO.out, rfl⟩, ?_⟩
        rw [← HAll.out]
        exact hrow.out.mono HB5.out.size
      have HBX := Lib.hid (HB5.out.trans (hB.out.mono HB5.out.size))
      go_wp2
      go_ret
      obtain ⟨o, h1, h2⟩ := HX.out
      exact ⟨_, o, rfl, h1, h2, HBX.out⟩
end Go.Proofs.YtgpciipemgljcaaGreat.Od

/-
  The walk of the law OrderRuns. No conditions but what can be read.
-/
namespace Go.Proofs.YtgpciipemgljcaaGreat.Od
open Go.RowKit
set_option linter.unusedVariables false

set_option maxRecDepth 100000 in
set_option maxHeartbeats 4000000 in
theorem lruns_core (A : Option Addr) (c : Nat) (l : List No) (hc : l.length ≤ c) (Ad : Option Addr) (cd : Nat) (D : List Is) (hf : Wf l) (hW : Wd D) (x y : No) (w : World) (hs : Nl w w.heap.size A l) (hd : Dl w w.heap.size l) (hi : Il w w.heap.size Ad D) (hl : l.length ≤ 30) (h7 : F7 l) (hD : D.length ≤ 100) : Calls Tryz.prog 3 #[.slice A l.length c, .slice Ad D.length cd, nv x, nv y] w (UpPost w) := by
  have B0 : Below w.heap.size w ((w.alloc (no x)).alloc (no y)) := ((Below.refl _ _).alloc (Nat.le_refl _) _).alloc (by simp) _
  have HAw := Lib.hid (awake_any ((w.alloc (no x)).alloc (no y)))
  have HFw := fun W h => Lib.hid (Few_any A c l W h)
  have hfw : fw l = true := fw_iff.2 ⟨hl, h7⟩
  rw [hfw] at HFw
  have d2 : decide ((100 : Int) < (D.length : Int)) = false := decide_eq_false (by omega)
  have HNx : Hid (∀ V, Below ((w.alloc (no x)).alloc (no y)).heap.size ((w.alloc (no x)).alloc (no y)) V → Nb V w.heap.size x ∧ Nb V (w.heap.size + 1) y) := fun V hV => by
    have h1 : Nb ((w.alloc (no x)).alloc (no y)) w.heap.size x := (nb_new w x).old _
    have h2 : Nb ((w.alloc (no x)).alloc (no y)) (w.heap.size + 1) y := by
      have := nb_new (w.alloc (no x)) y
      simpa using this
    exact ⟨h1.on hV h1.lt, h2.on hV h2.lt⟩
  have HL1 : ∀ V, Hid (Calls Tryz.prog 16 #[nv x, nv y] V (BoolPost V (ls x y))) := fun V => Less_any x y V
  have HL2 : ∀ V, Hid (Calls Tryz.prog 17 #[nv x, nv y] V (BoolPost V (ls x y))) := fun V => rLess_any x y V
  have HRl : ∀ W, Below w.heap.size w W → Hid (Calls Tryz.prog 12 #[.slice A l.length c, .slice Ad D.length cd] W (RdPost W (rd (cs l D) D))) := fun W hB =>
    Ready_any A c l (by omega) hc Ad cd D (by omega) hf hW h7 (Nat.le_trans (cs_len l D) hl) W (hs.to hB hB.size) (hd.to hB hB.size) (hi.to hB hB.size)
  have HRr : ∀ W, Below w.heap.size w W → Hid (Calls Tryz.prog 13 #[.slice A l.length c, .slice Ad D.length cd] W (RdPost W (rd (cs l D) D))) := fun W hB =>
    rReady_any A c l (by omega) Ad cd D (by omega) hf h7 (Nat.le_trans (cs_len l D) hl) W (hs.to hB hB.size) (hd.to hB hB.size) (hi.to hB hB.size)
  have HMl : ∀ W, Below w.heap.size w W → Hid (Calls Tryz.prog 14 #[.slice A l.length c, .slice Ad D.length cd] W (IsPost W (ms (cs l D) D))) := fun W hB =>
    Missing_any A c l (by omega) hc Ad cd D (by omega) hf hW h7 (Nat.le_trans (cs_len l D) (by omega)) W (hs.to hB hB.size) (hd.to hB hB.size) (hi.to hB hB.size)
  have HMr : ∀ W, Below w.heap.size w W → Hid (Calls Tryz.prog 15 #[.slice A l.length c, .slice Ad D.length cd] W (IsPost W (ms (cs l D) D))) := fun W hB =>
    rMissing_any A c l (by omega) (fun n hn => by have := h7 n hn; omega) Ad cd D (by omega) W (hs.to hB hB.size) (hd.to hB hB.size) (hi.to hB hB.size)
  have hrl : (rdk (cs l D) D (cs l D).length).length ≤ 30 := Nat.le_trans (rdk_len _ _ _) (Nat.le_trans (cs_len l D) hl)
  have hrl2 : (rd (cs l D) D).length ≤ 30 := hrl
  have hml := ms_len (cs l D) D
  have HS := Lib.hid hs
  generalize ls x y = lr at *
  generalize rd (cs l D) D = rr at *
  generalize ms (cs l D) D = mm at *
  clear hs hd hi hf hW h7 hfw hrl
  obtain ⟨xb, xs, xq, xd, xh, xc⟩ := x
  obtain ⟨yb, ys, yq, yd, yh, yc⟩ := y
  simp only [nv, no] at *
  go_enter Tryz.func3, Tryz.ntmps3
  go_wp2_with fail
  refine HAw.out.mono ?_
  rintro e w1 ⟨rfl, b1⟩
  have B1 := B0.trans (b1.mono B0.size)
  have HFw1 := HFw w1 (HS.out.to B1 B1.size)
  go_wp2_with fail
  refine HFw1.out.mono ?_
  rintro e w2 ⟨rfl, rfl⟩
  have HR1 := HRl w2 B1
  have HB1 := Lib.hid b1
  clear HAw HFw HFw1 HRl HS b1
  go_wp2_with fail
  refine HR1.out.mono ?_
  rintro e w3 ⟨v3, o, rfl, hr3, ho3, b3⟩
  obtain ⟨A3, c3, rfl, hI3, -⟩ := own_il ho3
  have B3 := B1.trans (b3.mono B1.size)
  have HR3 := HRr w3 B3
  have HI3 := Lib.hid hI3
  have HRo := Lib.hid hr3
  have hol : o.length ≤ 900 := hr3.len (m := 30) hrl2
  have hsz2 : ((w.alloc (.cells #[.int .i64 xb, .int .i64 xs, .int .i64 xq, .slice xh xd.length xc] 30)).alloc (.cells #[.int .i64 yb, .int .i64 ys, .int .i64 yq, .slice yh yd.length yc] 30)).heap.size ≤ w2.heap.size := HB1.out.size
  have HB3 := Lib.hid (HB1.out.trans (b3.mono hsz2))
  clear HR1 HRr ho3 hI3 hr3 b3 HB1 hsz2
  go_wp2_with fail
  refine HR3.out.mono ?_
  rintro e w4 ⟨v4, o', rfl, hr4, ho4, b4⟩
  obtain ⟨A4, c4, rfl, hI4, -⟩ := own_il ho4
  obtain rfl := HRo.out.one hr4
  have B4 := B3.trans (b4.mono B3.size)
  have HB4 := Lib.hid (HB3.out.trans (b4.mono HB3.out.size))
  have HS4 := Lib.hid (same_any A3 A4 c3 c4 o o true (by simp) (by omega) w4 (HI3.out.to b4 b4.size) hI4)
  clear HR3 hr4 ho4 hI4 b4 HI3 HRo B3 HB3
  go_wp2_with fail
  refine HS4.out.mono ?_
  rintro e w5 ⟨rfl, b5⟩
  have B5 := B4.trans (b5.mono B4.size)
  have HB5 := Lib.hid (HB4.out.trans (b5.mono HB4.out.size))
  have HM5 := HMl w5 B5
  clear HS4 b5 B4 HB4 HMl
  go_wp2_with fail
  refine HM5.out.mono ?_
  rintro e w6 ⟨v6, rfl, ho6, b6⟩
  obtain ⟨A6, c6, rfl, hI6, -⟩ := own_il ho6
  have B6 := B5.trans (b6.mono B5.size)
  have HB6 := Lib.hid (HB5.out.trans (b6.mono HB5.out.size))
  have HM6 := HMr w6 B6
  have HI6 := Lib.hid hI6
  clear HM5 ho6 hI6 b6 B5 HB5 HMr
  go_wp2_with fail
  refine HM6.out.mono ?_
  rintro e w7 ⟨v7, rfl, ho7, b7⟩
  obtain ⟨A7, c7, rfl, hI7, -⟩ := own_il ho7
  have B7 := B6.trans (b7.mono B6.size)
  have HB7 := Lib.hid (HB6.out.trans (b7.mono HB6.out.size))
  have HS7 := Lib.hid (same_any A6 A7 c6 c7 mm mm true (by simp) hml w7 (HI6.out.to b7 b7.size) hI7)
  clear HM6 ho7 hI7 b7 B6 HB6 HI6
  go_wp2_with fail
  refine HS7.out.mono ?_
  rintro e w9 ⟨rfl, b9⟩
  have HB9 := Lib.hid (B7.trans (b9.mono B7.size))
  have HB10 := Lib.hid (HB7.out.trans (b9.mono HB7.out.size))
  have SB : Hid (∀ v, Below w9.heap.size w9 v → (v.cell? ⟨w.heap.size, 0, none⟩ = some (.int .i64 xb) ∧ v.cell? ⟨w.heap.size, 1, none⟩ = some (.int .i64 xs) ∧ v.cell? ⟨w.heap.size, 2, none⟩ = some (.int .i64 xq) ∧ v.cell? ⟨w.heap.size, 3, none⟩ = some (.slice xh xd.length xc)) ∧ v.cell? ⟨w.heap.size + 1, 0, none⟩ = some (.int .i64 yb) ∧ v.cell? ⟨w.heap.size + 1, 1, none⟩ = some (.int .i64 ys) ∧ v.cell? ⟨w.heap.size + 1, 2, none⟩ = some (.int .i64 yq) ∧ v.cell? ⟨w.heap.size + 1, 3, none⟩ = some (.slice yh yd.length yc)) := Lib.hid (fun v g => by
    obtain ⟨h1, h2⟩ := HNx.out v (HB10.out.trans (g.mono HB10.out.size))
    exact ⟨h1.nr, h2.nr⟩)
  have BD : Hid (Below w9.heap.size w9 w9.drew) := (Below.refl _ _).drew
  clear HS7 b9 B7 HB7 B1 B0 HNx HB10
  go_wp2_with fail
  refine wp_region_held_drew (S := fun v => Below w9.heap.size w9 v) (by kernel_rfl) BD.out (fun hH => ?_)
  refine wpAnyH_take (i := 0) (v := ?v1) rfl (by kernel_rfl) (by kernel_rfl) (by kernel_rfl) (fun _ _ _ h => h) (Or.inl ⟨by rfl, ?hy1⟩) hH ?rest1
  case hy1 => (intro w hSw; (try dsimp only at hSw); go_simp; try with_reducible rfl)
  try simp only [Act.put, List.setIfInBounds_toArray, List.set_cons_zero, List.set_cons_succ, List.getElem_toArray, List.getElem_cons_zero]
  refine wpAnyH_take (i := 1) (v := ?v2) rfl (by kernel_rfl) (by kernel_rfl) (by kernel_rfl) (fun _ _ _ h => h) (Or.inl ⟨by rfl, ?hy2⟩) hH ?rest2
  case hy2 => (intro w hSw; (try dsimp only at hSw); go_simp; try with_reducible rfl)
  try simp only [Act.put, List.setIfInBounds_toArray, List.set_cons_zero, List.set_cons_succ, List.getElem_toArray, List.getElem_cons_zero, List.getElem_cons_succ]
  refine wpAnyH_take (i := 2) (v := ?v3) rfl (by kernel_rfl) (by kernel_rfl) (by kernel_rfl) (fun _ _ _ h => h) (Or.inl ⟨by rfl, ?hy3⟩) hH ?rest3
  case hy3 => (intro w hSw; (try dsimp only at hSw); go_simp; try with_reducible rfl)
  try simp only [Act.put, List.setIfInBounds_toArray, List.set_cons_zero, List.set_cons_succ, List.getElem_toArray, List.getElem_cons_zero, List.getElem_cons_succ]
  refine wpAnyH_take (i := 3) (v := ?v4) rfl (by kernel_rfl) (by kernel_rfl) (by kernel_rfl) (fun _ _ _ h => h) (Or.inl ⟨by rfl, ?hy4⟩) hH ?rest4
  case hy4 => (intro w hSw; (try dsimp only at hSw); go_simp; try with_reducible rfl)
  try simp only [Act.put, List.setIfInBounds_toArray, List.set_cons_zero, List.set_cons_succ, List.getElem_toArray, List.getElem_cons_zero, List.getElem_cons_succ]
  refine wpAnyH_take (i := 4) (v := ?v5) rfl (by kernel_rfl) (by kernel_rfl) (by kernel_rfl) (fun _ _ _ h => h) (Or.inl ⟨by rfl, ?hy5⟩) hH ?rest5
  case hy5 => (intro w hSw; (try dsimp only at hSw); go_simp; try with_reducible rfl)
  try simp only [Act.put, List.setIfInBounds_toArray, List.set_cons_zero, List.set_cons_succ, List.getElem_toArray, List.getElem_cons_zero, List.getElem_cons_succ]
  refine wpAnyH_take (i := 5) (v := ?v6) rfl (by kernel_rfl) (by kernel_rfl) (by kernel_rfl) (fun _ _ _ h => h) (Or.inl ⟨by rfl, ?hy6⟩) hH ?rest6
  case hy6 => (intro w hSw; (try dsimp only at hSw); obtain ⟨⟨f0, f1, f2, f3⟩, ⟨g0, g1, g2, g3⟩⟩ := SB.out w hSw; go_simp; try with_reducible rfl)
  try simp only [Act.put, List.setIfInBounds_toArray, List.set_cons_zero, List.set_cons_succ, List.getElem_toArray, List.getElem_cons_zero, List.getElem_cons_succ]
  refine wpAnyH_take (i := 6) (v := ?v7) rfl (by kernel_rfl) (by kernel_rfl) (by kernel_rfl) (fun _ _ _ h => h) (Or.inl ⟨by rfl, ?hy7⟩) hH ?rest7
  case hy7 => (intro w hSw; (try dsimp only at hSw); obtain ⟨⟨f0, f1, f2, f3⟩, ⟨g0, g1, g2, g3⟩⟩ := SB.out w hSw; go_simp; try with_reducible rfl)
  try simp only [Act.put, List.setIfInBounds_toArray, List.set_cons_zero, List.set_cons_succ, List.getElem_toArray, List.getElem_cons_zero, List.getElem_cons_succ]
  refine wpAnyH_take (i := 8) (v := ?v8) rfl (by kernel_rfl) (by kernel_rfl) (by kernel_rfl) (fun _ _ _ h => h) (Or.inl ⟨by rfl, ?hy8⟩) hH ?rest8
  case hy8 => (intro w hSw; (try dsimp only at hSw); obtain ⟨⟨f0, f1, f2, f3⟩, ⟨g0, g1, g2, g3⟩⟩ := SB.out w hSw; go_simp; try with_reducible rfl)
  try simp only [Act.put, List.setIfInBounds_toArray, List.set_cons_zero, List.set_cons_succ, List.getElem_toArray, List.getElem_cons_zero, List.getElem_cons_succ]
  refine wpAnyH_take (i := 9) (v := ?v9) rfl (by kernel_rfl) (by kernel_rfl) (by kernel_rfl) (fun _ _ _ h => h) (Or.inl ⟨by rfl, ?hy9⟩) hH ?rest9
  case hy9 => (intro w hSw; (try dsimp only at hSw); obtain ⟨⟨f0, f1, f2, f3⟩, ⟨g0, g1, g2, g3⟩⟩ := SB.out w hSw; go_simp; try with_reducible rfl)
  try simp only [Act.put, List.setIfInBounds_toArray, List.set_cons_zero, List.set_cons_succ, List.getElem_toArray, List.getElem_cons_zero, List.getElem_cons_succ]
  refine wpAnyH_ready (rs := [7]) (by kernel_rfl) (by simp) ?_
  refine AllReadyH.cons rfl (fun K hK => ?_) AllReadyH.nil
  go_simp
  go_at_call 16
  with_reducible refine (HL1 _).out.mono ?_
  rintro e wq10 ⟨rfl, bq10⟩
  go_wp2_with fail
  refine hK.out _ _ (hH.trans (bq10.mono hH.size)) (fun hH2 => ?_)
  clear hK K hH
  have hH := hH2
  clear hH2
  try simp only [Act.put, List.setIfInBounds_toArray, List.set_cons_zero, List.set_cons_succ, List.getElem_toArray, List.getElem_cons_zero, List.getElem_cons_succ]
  refine wpAnyH_ready (rs := [10]) (by kernel_rfl) (by simp) ?_
  refine AllReadyH.cons rfl (fun K hK => ?_) AllReadyH.nil
  go_simp
  go_at_call 17
  with_reducible refine (HL2 _).out.mono ?_
  rintro e wq11 ⟨rfl, bq11⟩
  go_wp2_with fail
  refine hK.out _ _ (hH.trans (bq11.mono hH.size)) (fun hH2 => ?_)
  clear hK K hH
  have hH := hH2
  clear hH2
  try simp only [Act.put, List.setIfInBounds_toArray, List.set_cons_zero, List.set_cons_succ, List.getElem_toArray, List.getElem_cons_zero, List.getElem_cons_succ]
  refine wpAnyH_take (i := 11) (v := ?v12) rfl (by kernel_rfl) (by kernel_rfl) (by kernel_rfl) (fun _ _ _ h => h) (Or.inl ⟨by rfl, ?hy12⟩) hH ?rest12
  case hy12 => (intro w hSw; (try dsimp only at hSw); go_simp; try with_reducible rfl)
  try simp only [Act.put, List.setIfInBounds_toArray, List.set_cons_zero, List.set_cons_succ, List.getElem_toArray, List.getElem_cons_zero, List.getElem_cons_succ]
  refine wpAnyH_take (i := 12) (v := ?v13) rfl (by kernel_rfl) (by kernel_rfl) (by kernel_rfl) (fun _ _ _ h => h) (Or.inl ⟨by rfl, ?hy13⟩) hH ?rest13
  case hy13 => (intro w hSw; (try dsimp only at hSw); go_simp; try with_reducible rfl)
  try simp only [Act.put, List.setIfInBounds_toArray, List.set_cons_zero, List.set_cons_succ, List.getElem_toArray, List.getElem_cons_zero, List.getElem_cons_succ]
  refine wpAnyH_take (i := 13) (v := ?v14) rfl (by kernel_rfl) (by kernel_rfl) (by kernel_rfl) (fun _ _ _ h => h) (Or.inl ⟨by rfl, ?hy14⟩) hH ?rest14
  case hy14 => (intro w hSw; (try dsimp only at hSw); go_simp; try with_reducible rfl)
  try simp only [Act.put, List.setIfInBounds_toArray, List.set_cons_zero, List.set_cons_succ, List.getElem_toArray, List.getElem_cons_zero, List.getElem_cons_succ]
  refine wpAnyH_done (by kernel_rfl) ?_ _
  have HBX := Lib.hid (HB9.out.trans (hH.mono HB9.out.size))
  go_wp2
  go_ret
  exact ⟨rfl, HBX.out⟩
theorem lruns_any (A : Option Addr) (c : Nat) (l : List No) (hc : l.length ≤ c) (Ad : Option Addr) (cd : Nat) (D : List Is) (hf : Wf l) (hW : Wd D) (x y : No) (w : World) (hs : Nl w w.heap.size A l) (hd : Dl w w.heap.size l) (hi : Il w w.heap.size Ad D) : Calls Tryz.prog 3 #[.slice A l.length c, .slice Ad D.length cd, nv x, nv y] w (UpPost w) := by
  have HS := Lib.hid hs
  by_cases hfw : fw l = true
  · have h1 := fw_iff.1 hfw
    by_cases hD : D.length ≤ 100
    · exact lruns_core A c l hc Ad cd D hf hW x y w hs hd hi h1.1 h1.2 hD
    · have d2 : decide ((100 : Int) < (D.length : Int)) = true := decide_eq_true (by omega)
      have B0 : Below w.heap.size w ((w.alloc (no x)).alloc (no y)) := ((Below.refl _ _).alloc (Nat.le_refl _) _).alloc (by simp) _
      have HAw := Lib.hid (awake_any ((w.alloc (no x)).alloc (no y)))
      have HFw := fun W h => Lib.hid (Few_any A c l W h)
      rw [hfw] at HFw
      clear hfw h1 hf hW hd hi hs
      obtain ⟨xb, xs, xq, xd, xh, xc⟩ := x
      obtain ⟨yb, ys, yq, yd, yh, yc⟩ := y
      simp only [nv, no] at *
      go_enter Tryz.func3, Tryz.ntmps3
      go_wp2_with fail
      refine HAw.out.mono ?_
      rintro e w1 ⟨rfl, b1⟩
      have B1 := B0.trans (b1.mono B0.size)
      have HFw1 := HFw w1 (HS.out.to B1 B1.size)
      go_wp2_with fail
      refine HFw1.out.mono ?_
      rintro e w2 ⟨rfl, rfl⟩
      go_wp2
      go_ret
      exact ⟨rfl, B1⟩
  · have hfw' : fw l = false := by simpa using hfw
    have B0 : Below w.heap.size w ((w.alloc (no x)).alloc (no y)) := ((Below.refl _ _).alloc (Nat.le_refl _) _).alloc (by simp) _
    have HAw := Lib.hid (awake_any ((w.alloc (no x)).alloc (no y)))
    have HFw := fun W h => Lib.hid (Few_any A c l W h)
    rw [hfw'] at HFw
    clear hfw hfw' hf hW hd hi hs
    obtain ⟨xb, xs, xq, xd, xh, xc⟩ := x
    obtain ⟨yb, ys, yq, yd, yh, yc⟩ := y
    simp only [nv, no] at *
    go_enter Tryz.func3, Tryz.ntmps3
    go_wp2_with fail
    refine HAw.out.mono ?_
    rintro e w1 ⟨rfl, b1⟩
    have B1 := B0.trans (b1.mono B0.size)
    have HFw1 := HFw w1 (HS.out.to B1 B1.size)
    go_wp2_with fail
    refine HFw1.out.mono ?_
    rintro e w2 ⟨rfl, rfl⟩
    go_wp2
    go_ret
    exact ⟨rfl, B1⟩
end Go.Proofs.YtgpciipemgljcaaGreat.Od

namespace Go.Proofs.YtgpciipemgljcaaGreat.orderRuns
open Go.ChangeShapes Go.WideShapes Go.ChangeAt Go.RowKit Go.Joins Od
set_option linter.unusedVariables false
set_option maxRecDepth 100000

theorem walk (A : Option Addr) (c : Nat) (l : List No) (Ad : Option Addr) (cd : Nat) (D : List Is) (x y : No) (w : World) (hs : l.length ≤ c ∧ Wf l ∧ Nl w w.heap.size A l ∧ Dl w w.heap.size l) (hi : Wd D ∧ Il w w.heap.size Ad D) (hx : fi x.i ∧ fits x.q ∧ At.Sl w w.heap.size .i64 x.h x.d) (hy : fi y.i ∧ fits y.q ∧ At.Sl w w.heap.size .i64 y.h y.d) : Calls Tryz.prog 3 #[.slice A l.length c, .slice Ad D.length cd, nv x, nv y] w (UpPost w) :=
  lruns_any A c l hs.1 Ad cd D hs.2.1 hi.1 x y w hs.2.2.1 hs.2.2.2 hi.2

theorem own : ownKnob Tryz.prog.godebug = none := by kernel_rfl
theorem laidOut : laidOutB Tryz.prog = true := by kernel_rfl

set_option maxRecDepth 100000 in
theorem lifted (os : Os) (started : os.Started) (H : Type) (enc : TypeId × Value → H) :
    ReturnsInHanded {} Tryz.checked os 3 .any (Rows.orderRunsSpec.pre6 enc Tryz.prog Tryz.f3 Rows.orderRunsRow.domain false) (Rows.orderRunsSpec.post enc Tryz.prog Tryz.f3 false true false false) := by
  refine returnsInHanded_of_change (C := Tryz.checked) own started (by kernel_rfl) Tryz.func3
    (ChangeSpec.witness6 (enc := enc) (C := Tryz.checked) false ⟨#[], #[.slice none 0 0, .slice none 0 0, .agg #[.int .i64 0, .int .i64 0, .int .i64 0, .slice none 0 0], .agg #[.int .i64 0, .int .i64 0, .int .i64 0, .slice none 0 0]], []⟩ 8 (by kernel_rfl) (by kernel_rfl) (by kernel_rfl) (by kernel_rfl)) ?_
  intro W base args ds gs before hval0 hW hcnd _
  have hval : ∀ (j : Nat) t v, Tryz.f3.params[j]? = some t → args[j]? = some v → Value.okWide Tryz.prog W .any base t v := hval0
  have hW' := hW
  obtain ⟨p, q, hA, hV, rfl, hfz, hnd⟩ := hW
  have hA : DataW.TrodAll enc Tryz.prog W 0 (fun _ => true) true Tryz.f3.params.toList args.toList ds p := hA
  rw [Tryz.params3] at hA hval
  obtain ⟨v0, vs0, d0, ds0, p0, q0, hargs, rfl, rfl, h0, r0⟩ := trodAll_cons hA
  obtain ⟨v1, vs1, d1, ds1, p1, q1, rfl, rfl, rfl, h1, r1⟩ := trodAll_cons r0
  obtain ⟨v2, vs2, d2, ds2, p2, q2, rfl, rfl, rfl, h2, r2⟩ := trodAll_cons r1
  obtain ⟨v3, vs3, d3, ds3, p3, q3, rfl, rfl, rfl, h3, r3⟩ := trodAll_cons r2
  obtain ⟨rfl, rfl, rfl⟩ := trodAll_nil r3
  obtain rfl : args = #[v0, v1, v2, v3] := by cases args; simp_all
  obtain ⟨rfl, rfl⟩ := trodVars_none hV
  have k0 := h0
  have lt0 : ∀ x ∈ p0, x.block < W.heap.size := by obtain ⟨m, hm⟩ := k0; exact DataW.trod_lt m _ _ _ hm
  obtain ⟨A0, c0, l0, rfl, s0⟩ := open_nodes (hval 0 22 v0 rfl rfl) h0
  have k1 := h1
  have lt1 : ∀ x ∈ p1, x.block < W.heap.size := by obtain ⟨m, hm⟩ := k1; exact DataW.trod_lt m _ _ _ hm
  obtain ⟨A1, c1, l1, rfl, s1⟩ := open_insts (hval 1 23 v1 rfl rfl) h1
  have k2 := h2
  have lt2 : ∀ x ∈ p2, x.block < W.heap.size := by obtain ⟨m, hm⟩ := k2; exact DataW.trod_lt m _ _ _ hm
  obtain ⟨x2, rfl, s2⟩ := open_node (hval 2 30 v2 rfl rfl) h2
  have k3 := h3
  have lt3 : ∀ x ∈ p3, x.block < W.heap.size := by obtain ⟨m, hm⟩ := k3; exact DataW.trod_lt m _ _ _ hm
  obtain ⟨x3, rfl, s3⟩ := open_node (hval 3 30 v3 rfl rfl) h3
  clear hval0
  refine (walk A0 c0 l0 A1 c1 l1 x2 x3 W s0 s1 s2 s3).mono fun e W' ⟨he, bel⟩ => ?_
  subst he
  exact ⟨_, rfl, _, _, _, [], _, [], hW', trodAll_mk1 (shut_bool Tryz.underlying4 _), (trodAll_cons_mk (Below.trod laidOut (by kernel_rfl) (of_decide_eq_true (by kernel_rfl)) k0 bel lt0) (trodAll_cons_mk (Below.trod laidOut (by kernel_rfl) (of_decide_eq_true (by kernel_rfl)) k1 bel lt1) (trodAll_cons_mk (Below.trod laidOut (by kernel_rfl) (of_decide_eq_true (by kernel_rfl)) k2 bel lt2) (trodAll_cons_mk (Below.trod laidOut (by kernel_rfl) (of_decide_eq_true (by kernel_rfl)) k3 bel lt3) trodAll_mk0)))), rfl, bel.frame _, fun h => by cases h⟩

theorem over : Rows.orderRunsRow.holds Tryz.pinned (OpenSpec.ofChange Rows.orderRunsSpec) :=
  OpenClaim.holds_of_wide 3 Tryz.f3 rfl rfl rfl rfl rfl rfl rfl ⟨rfl, rfl, rfl, rfl, rfl⟩ rfl rfl rfl rfl rfl (by kernel_rfl) Tryz.func3 (by kernel_rfl)
    (of_decide_eq_true (by kernel_rfl)) (by unfold Func.isWrapper; first | (rw [if_pos (by decide +kernel)]; kernel_rfl) | (rw [if_neg (by decide +kernel)]; exact ⟨rfl, rfl⟩))
    (fun os started H enc _ => lifted os started H enc)

theorem proved : Rows.OrderRunsSaid := over
#print axioms proved
end Go.Proofs.YtgpciipemgljcaaGreat.orderRuns
