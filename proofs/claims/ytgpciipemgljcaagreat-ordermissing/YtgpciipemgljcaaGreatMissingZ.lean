/-
  OrderMissing, for every input: where nothing is missing all that count are done; what is missing is waited for, and is neither told nor done: the law answers true, and its arguments read as they did. No conditions.
-/
import Derived.Test.YtgpciipemgljcaaGreatGam
import Derived.Test.YtgpciipemgljcaaGreatGah
import Derived.Test.YtgpciipemgljcaaGreatGal
import Derived.Test.YtgpciipemgljcaaGreatGag
import Derived.Deep.Onto
import Derived.IntWalk
import Derived.Test.YtgpciipemgljcaaGreatGae
/-
  The walk of the law OrderWaits. No conditions but what can be read.
-/
namespace Go.Proofs.YtgpciipemgljcaaGreat.Od
open Go.RowKit
set_option linter.unusedVariables false
attribute [local go_sem ↓ high] eq25 guard25 neq25 guard25n

theorem elem_size23 (W : World) : (sizeOf (Tryz.prog.elem 23)).run Tryz.prog W = .ok 2 W := by
  obtain ⟨i0, hi, hz0, hz1, hz2⟩ := info_parts info25
  have e : Tryz.prog.elem 23 = 25 := by kernel_rfl
  rw [e]
  simp [sizeOf, typeInfo, hi, hz1]
theorem Il.drop {w : World} {B b off : Nat} {l : List Is} (h : Il w B (some ⟨b, off, none⟩) l) (n : Nat) : Il w B (some ⟨b, off + n * 2, none⟩) (l.drop n) := by
  rcases h with rfl | ⟨b', off', hA, hb, hc⟩
  · exact .inl (by simp)
  · simp only [Option.some.injEq, Addr.mk.injEq, and_true] at hA
    obtain ⟨rfl, rfl⟩ := hA
    refine .inr ⟨b, _, rfl, hb, fun j x hx => ?_⟩
    rw [List.getElem?_drop] at hx
    have := hc _ _ hx
    rw [show off + n * 2 + j * 2 = off + (n + j) * 2 by omega]
    exact this
/-- 's[k:]' of instances. -/
theorem tail_runI {w : World} {B : Nat} {A : Option Addr} {l : List Is} (h : Il w B A l) (c k : Nat) (hk : k ≤ l.length) (hc : l.length ≤ c) :
    ∃ A', (∀ W, (Instr.sliceAt 23 (.slice A l.length c) (some (.int .i64 (k : Int))) none none).run Tryz.prog W = .ok (.slice A' (l.drop k).length (c - k)) W) ∧
      (∀ W, (Instr.slice 23 (.slice A l.length c) (some (.int .i64 (k : Int))) none none).run Tryz.prog W = .ok (.slice A' (l.drop k).length (c - k)) W) ∧ Il w B A' (l.drop k) := by
  have eu : Tryz.prog.underlying 23 = some (.slice (Tryz.prog.elem 23)) := by kernel_rfl
  have h2 : ∀ W, (Instr.slice 23 (.slice A l.length c) (some (.int .i64 (k : Int))) none none).run Tryz.prog W = .ok (.slice (if c = k then A else A.map (·.add (k * 2))) (l.drop k).length (c - k)) W := fun W => by
    rw [run_slice_l W 23 A l.length c eu .i64 k (by omega) (by omega), elem_size23]
    simp [sliced]
  refine ⟨if c = k then A else A.map (·.add (k * 2)), fun W => by rw [run_sliceAt_slice W 23 _ _ _ _ eu]; exact h2 W, h2, ?_⟩
  by_cases e : c = k
  · have : l.drop k = [] := List.drop_eq_nil_of_le (by omega)
    rw [this]; exact .nil
  · rw [if_neg e]
    rcases A with _ | ⟨b, off, sp⟩
    · rcases h with rfl | ⟨_, _, h0, _⟩
      · simp; exact .nil
      · cases h0
    · rcases h with rfl | ⟨b', off', hA, hb, hcc⟩
      · simp; exact .nil
      · simp only [Option.some.injEq, Addr.mk.injEq] at hA
        obtain ⟨rfl, rfl, rfl⟩ := hA
        have : Il w B (some ⟨b, off, none⟩) l := .inr ⟨b, off, rfl, hb, hcc⟩
        simp only [Option.map_some, Addr.add_lit]
        exact this.drop k
theorem place_in (A : Option Addr) (c : Nat) (l : List Is) (i : Is) (hi : i ∈ l) (hl : l.length ≤ 1000) (w : World) (hs : Il w w.heap.size A l) :
    Calls Tryz.prog 18 #[.slice A l.length c, iv i] w (fun e w' => ∃ z : Nat, e = .returned (.int .i64 (z : Int)) ∧ Below w.heap.size w w') := (place_any A c l i hl w hs).mono (by
  rintro e w' ⟨z, rfl, hz, hb⟩
  rcases hz with ⟨_, h⟩ | ⟨k, rfl, _, _⟩
  · exact absurd hi h
  · exact ⟨k, rfl, hb⟩)
theorem place_out (A : Option Addr) (c : Nat) (l : List Is) (i : Is) (hi : i ∉ l) (hl : l.length ≤ 1000) (w : World) (hs : Il w w.heap.size A l) :
    Calls Tryz.prog 18 #[.slice A l.length c, iv i] w (fun e w' => e = .returned (.int .i64 (-1)) ∧ Below w.heap.size w w') := (place_any A c l i hl w hs).mono (by
  rintro e w' ⟨z, rfl, hz, hb⟩
  rcases hz with ⟨rfl, _⟩ | ⟨k, rfl, h, _⟩
  · exact ⟨rfl, hb⟩
  · exact absurd (List.mem_of_getElem? h) hi)
set_option maxRecDepth 100000 in
set_option maxHeartbeats 4000000 in
theorem lwaits_core (A : Option Addr) (c : Nat) (l : List No) (hl : l.length ≤ 30) (h7 : F7 l) (hc : l.length ≤ c) (Ad : Option Addr) (cd : Nat) (D : List Is) (hD : D.length ≤ 100) (hf : Wf l) (hW : Wd D) (w : World) (hs : Nl w w.heap.size A l) (hd : Dl w w.heap.size l) (hi : Il w w.heap.size Ad D) :
    Calls Tryz.prog 4 #[.slice A l.length c, .slice Ad D.length cd] w (UpPost w) := by
  have HAw := Lib.hid (awake_any w)
  have HFw := fun W h => Lib.hid (Few_any A c l W h)
  have hfw : fw l = true := fw_iff.2 ⟨hl, h7⟩
  rw [hfw] at HFw
  have d2 : decide ((100 : Int) < (D.length : Int)) = false := decide_eq_false (by omega)
  have HRl : ∀ W, Below w.heap.size w W → Hid (Calls Tryz.prog 12 #[.slice A l.length c, .slice Ad D.length cd] W (RdPost W (rd (cs l D) D))) := fun W hB =>
    Ready_any A c l (by omega) hc Ad cd D (by omega) hf hW h7 (Nat.le_trans (cs_len l D) hl) W (hs.to hB hB.size) (hd.to hB hB.size) (hi.to hB hB.size)
  have HMl : ∀ W, Below w.heap.size w W → Hid (Calls Tryz.prog 14 #[.slice A l.length c, .slice Ad D.length cd] W (IsPost W (ms (cs l D) D))) := fun W hB =>
    Missing_any A c l (by omega) hc Ad cd D (by omega) hf hW h7 (Nat.le_trans (cs_len l D) (by omega)) W (hs.to hB hB.size) (hd.to hB hB.size) (hi.to hB hB.size)
  have HS := Lib.hid hs
  have HDl0 := Lib.hid hd
  have HDn0 := Lib.hid hi
  have HWf := Lib.hid hf
  have H7 := Lib.hid h7
  clear hs hd hi hf hW h7 hfw
  go_enter Tryz.func4, Tryz.ntmps4
  go_wp2_with fail
  refine HAw.out.mono ?_
  rintro e w1 ⟨rfl, B1⟩
  have HFw1 := HFw w1 (HS.out.to B1 B1.size)
  go_wp2_with fail
  refine HFw1.out.mono ?_
  rintro e w2 ⟨rfl, rfl⟩
  have HRl1 := HRl w2 B1
  clear HAw HFw HFw1 HRl
  go_wp2_with fail
  refine HRl1.out.mono ?_
  rintro e w3 ⟨v3, o, rfl, hr3, ho3, b3⟩
  obtain ⟨A3, c3, rfl, hI3, -⟩ := own_il ho3
  have hc3 := own_cap ho3
  have B3 := B1.trans (b3.mono B1.size)
  have HMl1 := HMl w3 B3
  have HOrs := Lib.hid (hr3.ors (rd_ri l D))
  have hol : o.length ≤ 900 := hr3.len (Nat.le_trans (rdk_len _ _ _) (Nat.le_trans (cs_len l D) hl))
  have HI3 := Lib.hid hI3
  clear HRl1 hr3 ho3 hI3 HMl b3
  go_wp2_with fail
  refine HMl1.out.mono ?_
  rintro e w4 ⟨v4, rfl, ho4, b4⟩
  obtain ⟨A4, c4, rfl, hI4, -⟩ := own_il ho4
  have hml := ms_len (cs l D) D
  have HB4 := Lib.hid (B3.trans (b4.mono B3.size))
  have HO := Lib.hid (HI3.out.to b4 b4.size)
  have HM := Lib.hid hI4
  have HNl := Lib.hid (HS.out.to HB4.out HB4.out.size)
  have HDl := Lib.hid (HDl0.out.to HB4.out HB4.out.size)
  have HDn := Lib.hid (HDn0.out.to HB4.out HB4.out.size)
  have HLaw := Lib.hid (fun (hdi : Di l) (n : No) (hn : n ∈ l) (hon : n.i ∈ o) => waits_law H7.out hdi HOrs.out hn hon)
  have HMb := Lib.hid (fun m (hm : m ∈ ms (cs l D) D) => mem_ax.1 (mem_ms.1 hm).1)
  generalize ms (cs l D) D = mm at *
  clear HMl1 ho4 hI4 b4 B3 B1 HI3 HS HDl0 HDn0
  go_wp2
  go_loopg [9] l.length (fun q t W => ∃ k : Nat, k + q = l.length ∧ t = .int .i64 (k : Int) ∧ Hid (Dk l k) ∧ Hid (Below w4.heap.size w4 W))
  case atStart => exact ⟨0, by omega, rfl, Dk.zero l, Below.refl _ _⟩
  case round =>
    obtain ⟨k, hk, rfl, hDk, hB⟩ := hrel
    by_cases hlt : k < l.length
    · have hki : (k : Int) < (l.length : Int) := by omega
      have hk0 : (0 : Int) ≤ (k : Int) := by omega
      have HX := Lib.hid (List.getElem?_eq_getElem hlt)
      generalize l[k] = x at *
      go_wp2
      go_loopg [10] k (fun q t W => ∃ j : Nat, j + q = k ∧ t = .int .i64 (j : Int) ∧ Hid (Below w4.heap.size w4 W) ∧ Hid (∀ b y, b < j → l[b]? = some y → x.i ≠ y.i))
      case atStart => exact ⟨0, by omega, rfl, hB.out, fun b y h => by omega⟩
      case round =>
        clear hB
        obtain ⟨j, hj, rfl, hB, hne⟩ := hrel
        by_cases hjt : j < k
        · have hji : (j : Int) < (k : Int) := by omega
          have hjl : (j : Int) < (l.length : Int) := by omega
          have hj0 : (0 : Int) ≤ (j : Int) := by omega
          have HY := Lib.hid (List.getElem?_eq_getElem (show j < l.length by omega))
          have hNw := HNl.out.to hB.out hB.out.size
          obtain ⟨b, off, rfl, hb, p0, p1, p2, p3⟩ := hNw.at_ HX.out
          obtain ⟨b2, off2, e2, hb2, q0, q1, q2, q3⟩ := hNw.at_ HY.out
          cases e2
          generalize l[j] = y at *
          clear p2 p3 q2 q3
          by_cases he : (x.b, x.s) = (y.b, y.s)
          · have hq := same_yes he
            have HBX := Lib.hid (HB4.out.trans (hB.out.mono HB4.out.size))
            clear he
            go_wp2_with fail
            go_quiet (fail)
            go_wp2
            go_ret
            exact ⟨rfl, Gp.below_drewN HBX.out _⟩
          · have hq := same_no he
            have HN2 : Hid (∀ b y, b < j + 1 → l[b]? = some y → x.i ≠ y.i) := fun b z hb hz => by
              rcases Nat.lt_or_ge b j with h | h
              · exact hne.out b z h hz
              · obtain rfl : b = j := by omega
                rw [HY.out] at hz
                cases hz
                exact he
            clear he
            go_wp2_with fail
            go_quiet (fail)
            go_wp2
            go_roundg (k - (j + 1))
            case measure => omega
            case rel => exact ⟨j + 1, by omega, by go_num, Gp.below_drewN hB.out _, HN2.out⟩
        · obtain rfl : j = k := by omega
          have HDk2 := Lib.hid (hDk.out.succ HX.out hne.out)
          go_wp2
          go_roundg (l.length - (j + 1))
          case measure => omega
          case rel => exact ⟨j + 1, by omega, by go_num, HDk2.out, hB.out⟩
    · obtain rfl : l.length = k := by omega
      have HL2 := Lib.hid (HLaw.out hDk.out.di)
      clear HLaw hDk
      go_wp2
      go_loopg [11] l.length (fun q t W => ∃ k : Nat, k + q = l.length ∧ t = .int .i64 (k : Int) ∧ Hid (Below w4.heap.size w4 W))
      case atStart => exact ⟨0, by omega, rfl, hB.out⟩
      case round =>
        clear hB hk hlt
        obtain ⟨k, hk, rfl, hB⟩ := hrel
        by_cases hlt : k < l.length
        · have hki : (k : Int) < (l.length : Int) := by omega
          have hk0 : (0 : Int) ≤ (k : Int) := by omega
          have HX := Lib.hid (List.getElem?_eq_getElem hlt)
          have HMx := Lib.hid (List.getElem_mem hlt)
          have hNw := HNl.out.to hB.out hB.out.size
          obtain ⟨b, off, rfl, hb, p0, p1, p2, p3⟩ := hNw.at_ HX.out
          generalize l[k] = x at *
          have HPl := Lib.hid (place_any A3 c3 o x.i (by omega) wr (HO.out.to hB.out hB.out.size))
          have HLx := Lib.hid (HL2.out x HMx.out)
          have HDx := Lib.hid (HDl.out x HMx.out)
          have HHas : ∀ V, Below w4.heap.size w4 V → x.i ∉ D → Hid (Calls Tryz.prog 19 #[.slice Ad D.length cd, iv x.i] V (BoolPost V false)) := fun V hV hn => has_any Ad cd D x.i false (by simp [hn]) (by omega) V (HDn.out.to hV hV.size)
          obtain ⟨xb, xs, xq, xd, xh, xc⟩ := x
          simp only [No.i, iv] at *
          clear hNw hki
          have hki : (k : Int) < (l.length : Int) := by omega
          go_wp2_with fail
          refine HPl.out.mono ?_
          rintro e w5 ⟨z, rfl, hz, b5⟩
          have HB5 := Lib.hid (hB.out.trans (b5.mono hB.out.size))
          rcases hz with ⟨rfl, -⟩ | ⟨z', rfl, hoz, -⟩
          · go_wp2
            go_roundg (l.length - (k + 1))
            case measure => omega
            case rel => exact ⟨k + 1, by omega, by go_num, HB5.out⟩
          · have hfacts := HLx.out (List.mem_of_getElem? hoz)
            obtain ⟨hfr, hfD, hfm, hfk⟩ := hfacts
            have hz0 : decide ((z' : Int) < 0) = false := decide_eq_false (by omega)
            have hzl := (List.getElem?_eq_some_iff.1 hoz).1
            obtain ⟨zz, hzz⟩ : ∃ zz, zz = z' + 1 := ⟨_, rfl⟩
            have hw : IntKind.i64.wrap ((z' : Int) + 1) = (zz : Int) := by rw [IntWalk.i64_in _ (by omega)]; omega
            have hzz0 : (0 : Int) ≤ (zz : Int) := by omega
            have HHas5 := HHas w5 HB5.out hfD
            have Hfm := Lib.hid hfm
            have Hfk := Lib.hid hfk
            have hNw5 := HNl.out.to HB5.out HB5.out.size
            obtain ⟨b', off', e', hb', p0, p1, p2, p3⟩ := hNw5.at_ HX.out
            cases e'
            have Hoz := Lib.hid hoz
            clear hfm hfk hfr hfD HHas HLx HPl b5 hB hoz hNw5
            go_wp2_with fail
            refine HHas5.out.mono ?_
            rintro e w6 ⟨rfl, b6⟩
            have HB6 := Lib.hid (HB5.out.trans (b6.mono HB5.out.size))
            have hNw6 := HNl.out.to HB6.out HB6.out.size
            obtain ⟨b', off', e', hbl, p0, p1, p2, p3⟩ := hNw6.at_ HX.out
            cases e'
            obtain ⟨Ax, ht1, ht2, hIt⟩ := tail_runI (HO.out.to HB6.out HB6.out.size) c3 zz (by omega) hc3
            have Hnt : Hid ((xb, xs) ∉ o.drop zz) := fun hm => by
              obtain ⟨i, hi⟩ := List.getElem?_of_mem hm
              rw [List.getElem?_drop] at hi
              have := HOrs.out.one _ _ _ hi Hoz.out
              omega
            have HIt := Lib.hid hIt
            have HP2 : ∀ V, Below w6.heap.size w6 V → Hid (Calls Tryz.prog 18 #[.slice Ax (o.drop zz).length (c3 - zz), .agg #[.int .i64 xb, .int .i64 xs]] V (fun e w' => e = .returned (.int .i64 (-1)) ∧ Below V.heap.size V w')) := fun V hV => (place_any Ax _ (o.drop zz) (xb, xs) (by simp; omega) V (HIt.out.to hV hV.size)).mono (by
              rintro e w' ⟨z, rfl, hz, hb⟩
              rcases hz with ⟨rfl, _⟩ | ⟨k', _, hk', _⟩
              · exact ⟨rfl, hb⟩
              · exact absurd (List.mem_of_getElem? hk') Hnt.out)
            have hzd : decide ((z' : Int) + 1 < 0) = false := decide_eq_false (by omega)
            have SB : Hid (∀ v, Below w6.heap.size w6 v → v.cell? ⟨b, off + k * 4, none⟩ = some (.int .i64 xb) ∧ v.cell? ⟨b, off + k * 4 + 1, none⟩ = some (.int .i64 xs)) := Lib.hid (fun v g => ⟨(World.cell?_of_block (g.block _ hbl)).trans p0, (World.cell?_of_block (g.block _ hbl)).trans p1⟩)
            have BD : Hid (Below w6.heap.size w6 w6.drew) := (Below.refl _ _).drew
            clear HHas5 b6 HB5 hIt hNw6 hzz p0 p1 p2 p3 hzd
            generalize (o.drop zz).length = dl at *
            go_wp2_with fail
            refine wp_region_held_drew (S := fun v => Below w6.heap.size w6 v) (by kernel_rfl) BD.out (fun hH => ?_)
            refine wpAnyH_take (i := 0) (v := ?v1) rfl (by kernel_rfl) (by kernel_rfl) (by kernel_rfl) (fun _ _ _ h => h) (Or.inl ⟨by rfl, ?hy1⟩) hH ?rest1
            case hy1 => (intro w hSw; (try dsimp only at hSw); go_simp; try with_reducible rfl)
            try simp only [Act.put, List.setIfInBounds_toArray, List.set_cons_zero, List.set_cons_succ, List.getElem_toArray, List.getElem_cons_zero]
            refine wpAnyH_take (i := 1) (v := ?v2) rfl (by kernel_rfl) (by kernel_rfl) (by kernel_rfl) (fun _ _ _ h => h) (Or.inl ⟨by rfl, ?hy2⟩) hH ?rest2
            case hy2 => (intro w hSw; (try dsimp only at hSw); go_simp; try with_reducible rfl)
            try simp only [Act.put, List.setIfInBounds_toArray, List.set_cons_zero, List.set_cons_succ, List.getElem_toArray, List.getElem_cons_zero, List.getElem_cons_succ]
            refine wpAnyH_take (i := 2) (v := ?v3) rfl (by kernel_rfl) (by kernel_rfl) (by kernel_rfl) (fun _ _ _ h => h) (Or.inl ⟨by rfl, ?hy3⟩) hH ?rest3
            case hy3 => (intro w hSw; (try dsimp only at hSw); go_simp; try with_reducible rfl)
            try simp only [Act.put, List.setIfInBounds_toArray, List.set_cons_zero, List.set_cons_succ, List.getElem_toArray, List.getElem_cons_zero, List.getElem_cons_succ]
            refine wpAnyH_take (i := 3) (v := ?v4) rfl (by kernel_rfl) (by kernel_rfl) (by kernel_rfl) (fun _ _ _ h => h) (Or.inl ⟨by rfl, ?hy4⟩) hH ?rest4
            case hy4 => (intro w hSw; (try dsimp only at hSw); go_simp; try with_reducible rfl)
            try simp only [Act.put, List.setIfInBounds_toArray, List.set_cons_zero, List.set_cons_succ, List.getElem_toArray, List.getElem_cons_zero, List.getElem_cons_succ]
            refine wpAnyH_take (i := 6) (v := ?v5) rfl (by kernel_rfl) (by kernel_rfl) (by kernel_rfl) (fun _ _ _ h => h) (Or.inl ⟨by rfl, ?hy5⟩) hH ?rest5
            case hy5 => (intro w hSw; (try dsimp only at hSw); go_simp; try with_reducible rfl)
            try simp only [Act.put, List.setIfInBounds_toArray, List.set_cons_zero, List.set_cons_succ, List.getElem_toArray, List.getElem_cons_zero, List.getElem_cons_succ]
            refine wpAnyH_take (i := 7) (v := ?v6) rfl (by kernel_rfl) (by kernel_rfl) (by kernel_rfl) (fun _ _ _ h => h) (Or.inl ⟨by rfl, ?hy6⟩) hH ?rest6
            case hy6 => (intro w hSw; (try dsimp only at hSw); go_simp; try with_reducible rfl)
            try simp only [Act.put, List.setIfInBounds_toArray, List.set_cons_zero, List.set_cons_succ, List.getElem_toArray, List.getElem_cons_zero, List.getElem_cons_succ]
            refine wpAnyH_take (i := 4) (v := ?v7) rfl (by kernel_rfl) (by kernel_rfl) (by kernel_rfl) (fun _ _ _ h => h) (Or.inl ⟨by rfl, ?hy7⟩) hH ?rest7
            case hy7 => (intro w hSw; (try dsimp only at hSw); go_simp; try with_reducible rfl)
            try simp only [Act.put, List.setIfInBounds_toArray, List.set_cons_zero, List.set_cons_succ, List.getElem_toArray, List.getElem_cons_zero, List.getElem_cons_succ]
            refine wpAnyH_take (i := 8) (v := ?v8) rfl (by kernel_rfl) (by kernel_rfl) (by kernel_rfl) (fun _ _ _ h => h) (Or.inl ⟨by rfl, ?hy8⟩) hH ?rest8
            case hy8 => (intro w hSw; (try dsimp only at hSw); go_simp; try with_reducible rfl)
            try simp only [Act.put, List.setIfInBounds_toArray, List.set_cons_zero, List.set_cons_succ, List.getElem_toArray, List.getElem_cons_zero, List.getElem_cons_succ]
            refine wpAnyH_take (i := 5) (v := ?v9) rfl (by kernel_rfl) (by kernel_rfl) (by kernel_rfl) (fun _ _ _ h => h) (Or.inl ⟨by rfl, ?hy9⟩) hH ?rest9
            case hy9 => (intro w hSw; (try dsimp only at hSw); go_simp; try with_reducible rfl)
            try simp only [Act.put, List.setIfInBounds_toArray, List.set_cons_zero, List.set_cons_succ, List.getElem_toArray, List.getElem_cons_zero, List.getElem_cons_succ]
            refine wpAnyH_take (i := 9) (v := ?v10) rfl (by kernel_rfl) (by kernel_rfl) (by kernel_rfl) (fun _ _ _ h => h) (Or.inl ⟨by rfl, ?hy10⟩) hH ?rest10
            case hy10 => (intro w hSw; (try dsimp only at hSw); go_simp; try with_reducible rfl)
            try simp only [Act.put, List.setIfInBounds_toArray, List.set_cons_zero, List.set_cons_succ, List.getElem_toArray, List.getElem_cons_zero, List.getElem_cons_succ]
            refine wpAnyH_take (i := 10) (v := ?v11) rfl (by kernel_rfl) (by kernel_rfl) (by kernel_rfl) (fun _ _ _ h => h) (Or.inl ⟨by rfl, ?hy11⟩) hH ?rest11
            case hy11 => (intro w hSw; (try dsimp only at hSw); obtain ⟨f0, f1⟩ := SB.out w hSw; go_simp; try with_reducible rfl)
            try simp only [Act.put, List.setIfInBounds_toArray, List.set_cons_zero, List.set_cons_succ, List.getElem_toArray, List.getElem_cons_zero, List.getElem_cons_succ]
            refine wpAnyH_ready (rs := [11]) (by kernel_rfl) (by simp) ?_
            refine AllReadyH.cons rfl (fun K hK => ?_) AllReadyH.nil
            go_simp
            go_at_call 18
            with_reducible refine (HP2 _ hH).out.mono ?_
            rintro e wq12 ⟨rfl, bq12⟩
            go_wp2_with fail
            refine hK.out _ _ (hH.trans (bq12.mono hH.size)) (fun hH2 => ?_)
            clear hK K hH
            have hH := hH2
            clear hH2
            try simp only [Act.put, List.setIfInBounds_toArray, List.set_cons_zero, List.set_cons_succ, List.getElem_toArray, List.getElem_cons_zero, List.getElem_cons_succ]
            refine wpAnyH_take (i := 12) (v := ?v13) rfl (by kernel_rfl) (by kernel_rfl) (by kernel_rfl) (fun _ _ _ h => h) (Or.inl ⟨by rfl, ?hy13⟩) hH ?rest13
            case hy13 => (intro w hSw; (try dsimp only at hSw); go_simp; try with_reducible rfl)
            try simp only [Act.put, List.setIfInBounds_toArray, List.set_cons_zero, List.set_cons_succ, List.getElem_toArray, List.getElem_cons_zero, List.getElem_cons_succ]
            refine wpAnyH_take (i := 13) (v := ?v14) rfl (by kernel_rfl) (by kernel_rfl) (by kernel_rfl) (fun _ _ _ h => h) (Or.inl ⟨by rfl, ?hy14⟩) hH ?rest14
            case hy14 => (intro w hSw; (try dsimp only at hSw); go_simp; try with_reducible rfl)
            try simp only [Act.put, List.setIfInBounds_toArray, List.set_cons_zero, List.set_cons_succ, List.getElem_toArray, List.getElem_cons_zero, List.getElem_cons_succ]
            refine wpAnyH_done (by kernel_rfl) ?_ _
            have HB7 := Lib.hid (HB6.out.trans (hH.mono HB6.out.size))
            clear HP2 SB BD HB6 Hnt HIt ht1 ht2 hH hw hzz0 hzl Hoz
            go_wp2
            go_loopg [14] mm.length (fun q t W => ∃ j : Nat, j + q = mm.length ∧ t = .int .i64 (j : Int) ∧ Hid (Below w4.heap.size w4 W))
            case atStart => exact ⟨0, by omega, rfl, HB7.out⟩
            case round =>
              clear HB7
              obtain ⟨j, hj, rfl, hB⟩ := hrel
              by_cases hjt : j < mm.length
              · have hji : (j : Int) < (mm.length : Int) := by omega
                have hj0 : (0 : Int) ≤ (j : Int) := by omega
                have HY := Lib.hid (List.getElem?_eq_getElem hjt)
                have HMy := Lib.hid (List.getElem_mem hjt)
                have hNw := HNl.out.to hB.out hB.out.size
                obtain ⟨b', off', e', hbl, p0, p1, p2, p3⟩ := hNw.at_ HX.out
                cases e'
                obtain ⟨b4, off4, rfl, hbl4, m0, m1⟩ := (HM.out.to hB.out hB.out.size).at_ HY.out
                have HW : ∀ V, Below wr.heap.size wr V → Hid (Calls Tryz.prog 20 #[.agg #[.int .i64 xq, .slice xh xd.length xc], iv mm[j]] V (At.BoolPost V (wa ⟨xb, xs, xq, xd, xh, xc⟩ mm[j]))) := fun V hV =>
                  At.waits_any xq mm[j].1 mm[j].2 xh xc xd V ((HDx.out.to hB.out hB.out.size).to hV hV.size) (by have := HMb.out _ HMy.out; omega)
                rw [Hfm.out _ HMy.out] at HW
                generalize mm[j] = y at *
                obtain ⟨yb, ys⟩ := y
                simp only [iv] at *
                have SB : Hid (∀ v, Below wr.heap.size wr v → v.cell? ⟨b, off + k * 4 + 2, none⟩ = some (.int .i64 xq) ∧ v.cell? ⟨b, off + k * 4 + 3, none⟩ = some (.slice xh xd.length xc) ∧ v.cell? ⟨b4, off4 + j * 2, none⟩ = some (.int .i64 yb) ∧ v.cell? ⟨b4, off4 + j * 2 + 1, none⟩ = some (.int .i64 ys)) := Lib.hid (fun v g => ⟨(World.cell?_of_block (g.block _ hbl)).trans p2, (World.cell?_of_block (g.block _ hbl)).trans p3, (World.cell?_of_block (g.block _ hbl4)).trans m0, (World.cell?_of_block (g.block _ hbl4)).trans m1⟩)
                have BD : Hid (Below wr.heap.size wr wr.drew) := (Below.refl _ _).drew
                clear p0 p1 p2 p3 m0 m1 hNw HMy
                go_wp2_with fail
                refine wp_region_held_drew (S := fun v => Below wr.heap.size wr v) (by kernel_rfl) BD.out (fun hH => ?_)
                refine wpAnyH_take (i := 0) (v := ?v15) rfl (by kernel_rfl) (by kernel_rfl) (by kernel_rfl) (fun _ _ _ h => h) (Or.inl ⟨by rfl, ?hy15⟩) hH ?rest15
                case hy15 => (intro w hSw; (try dsimp only at hSw); go_simp; try with_reducible rfl)
                try simp only [Act.put, List.setIfInBounds_toArray, List.set_cons_zero, List.set_cons_succ, List.getElem_toArray, List.getElem_cons_zero]
                refine wpAnyH_take (i := 1) (v := ?v16) rfl (by kernel_rfl) (by kernel_rfl) (by kernel_rfl) (fun _ _ _ h => h) (Or.inl ⟨by rfl, ?hy16⟩) hH ?rest16
                case hy16 => (intro w hSw; (try dsimp only at hSw); go_simp; try with_reducible rfl)
                try simp only [Act.put, List.setIfInBounds_toArray, List.set_cons_zero, List.set_cons_succ, List.getElem_toArray, List.getElem_cons_zero, List.getElem_cons_succ]
                refine wpAnyH_take (i := 5) (v := ?v17) rfl (by kernel_rfl) (by kernel_rfl) (by kernel_rfl) (fun _ _ _ h => h) (Or.inl ⟨by rfl, ?hy17⟩) hH ?rest17
                case hy17 => (intro w hSw; (try dsimp only at hSw); go_simp; try with_reducible rfl)
                try simp only [Act.put, List.setIfInBounds_toArray, List.set_cons_zero, List.set_cons_succ, List.getElem_toArray, List.getElem_cons_zero, List.getElem_cons_succ]
                refine wpAnyH_take (i := 6) (v := ?v18) rfl (by kernel_rfl) (by kernel_rfl) (by kernel_rfl) (fun _ _ _ h => h) (Or.inl ⟨by rfl, ?hy18⟩) hH ?rest18
                case hy18 => (intro w hSw; (try dsimp only at hSw); go_simp; try with_reducible rfl)
                try simp only [Act.put, List.setIfInBounds_toArray, List.set_cons_zero, List.set_cons_succ, List.getElem_toArray, List.getElem_cons_zero, List.getElem_cons_succ]
                refine wpAnyH_take (i := 2) (v := ?v19) rfl (by kernel_rfl) (by kernel_rfl) (by kernel_rfl) (fun _ _ _ h => h) (Or.inl ⟨by rfl, ?hy19⟩) hH ?rest19
                case hy19 => (intro w hSw; (try dsimp only at hSw); go_simp; try with_reducible rfl)
                try simp only [Act.put, List.setIfInBounds_toArray, List.set_cons_zero, List.set_cons_succ, List.getElem_toArray, List.getElem_cons_zero, List.getElem_cons_succ]
                refine wpAnyH_take (i := 7) (v := ?v20) rfl (by kernel_rfl) (by kernel_rfl) (by kernel_rfl) (fun _ _ _ h => h) (Or.inl ⟨by rfl, ?hy20⟩) hH ?rest20
                case hy20 => (intro w hSw; (try dsimp only at hSw); go_simp; try with_reducible rfl)
                try simp only [Act.put, List.setIfInBounds_toArray, List.set_cons_zero, List.set_cons_succ, List.getElem_toArray, List.getElem_cons_zero, List.getElem_cons_succ]
                refine wpAnyH_take (i := 3) (v := ?v21) rfl (by kernel_rfl) (by kernel_rfl) (by kernel_rfl) (fun _ _ _ h => h) (Or.inl ⟨by rfl, ?hy21⟩) hH ?rest21
                case hy21 => (intro w hSw; (try dsimp only at hSw); go_simp; try with_reducible rfl)
                try simp only [Act.put, List.setIfInBounds_toArray, List.set_cons_zero, List.set_cons_succ, List.getElem_toArray, List.getElem_cons_zero, List.getElem_cons_succ]
                refine wpAnyH_take (i := 8) (v := ?v22) rfl (by kernel_rfl) (by kernel_rfl) (by kernel_rfl) (fun _ _ _ h => h) (Or.inl ⟨by rfl, ?hy22⟩) hH ?rest22
                case hy22 => (intro w hSw; (try dsimp only at hSw); obtain ⟨f0, f1, f2, f3⟩ := SB.out w hSw; go_simp; try with_reducible rfl)
                try simp only [Act.put, List.setIfInBounds_toArray, List.set_cons_zero, List.set_cons_succ, List.getElem_toArray, List.getElem_cons_zero, List.getElem_cons_succ]
                refine wpAnyH_take (i := 4) (v := ?v23) rfl (by kernel_rfl) (by kernel_rfl) (by kernel_rfl) (fun _ _ _ h => h) (Or.inl ⟨by rfl, ?hy23⟩) hH ?rest23
                case hy23 => (intro w hSw; (try dsimp only at hSw); obtain ⟨f0, f1, f2, f3⟩ := SB.out w hSw; go_simp; try with_reducible rfl)
                try simp only [Act.put, List.setIfInBounds_toArray, List.set_cons_zero, List.set_cons_succ, List.getElem_toArray, List.getElem_cons_zero, List.getElem_cons_succ]
                refine wpAnyH_ready (rs := [9]) (by kernel_rfl) (by simp) ?_
                refine AllReadyH.cons rfl (fun K hK => ?_) AllReadyH.nil
                go_simp
                go_at_call 20
                with_reducible refine (HW _ hH).out.mono ?_
                rintro e wq24 ⟨rfl, bq24⟩
                go_wp2_with fail
                refine hK.out _ _ (hH.trans (bq24.mono hH.size)) (fun hH2 => ?_)
                clear hK K hH
                have hH := hH2
                clear hH2
                try simp only [Act.put, List.setIfInBounds_toArray, List.set_cons_zero, List.set_cons_succ, List.getElem_toArray, List.getElem_cons_zero, List.getElem_cons_succ]
                refine wpAnyH_done (by kernel_rfl) ?_ _
                have HB8 := Lib.hid (hB.out.trans (hH.mono hB.out.size))
                clear HW SB BD hB hH
                go_wp2
                go_roundg (mm.length - (j + 1))
                case measure => omega
                case rel => exact ⟨j + 1, by omega, by go_num, HB8.out⟩
              · obtain rfl : j = mm.length := by omega
                go_wp2
                go_loopg [15] l.length (fun q t W => ∃ j : Nat, j + q = l.length ∧ t = .int .i64 (j : Int) ∧ Hid (Below w4.heap.size w4 W))
                case atStart => exact ⟨0, by omega, rfl, hB.out⟩
                case round =>
                  clear hB hj hjt
                  obtain ⟨j, hj, rfl, hB⟩ := hrel
                  by_cases hjt : j < l.length
                  · have hji : (j : Int) < (l.length : Int) := by omega
                    have hj0 : (0 : Int) ≤ (j : Int) := by omega
                    have HY := Lib.hid (List.getElem?_eq_getElem hjt)
                    have HMy := Lib.hid (List.getElem_mem hjt)
                    have hNw := HNl.out.to hB.out hB.out.size
                    obtain ⟨b', off', e', hbl, p0, p1, p2, p3⟩ := hNw.at_ HX.out
                    cases e'
                    obtain ⟨b', off', e', _, q0, q1, q2, q3⟩ := hNw.at_ HY.out
                    cases e'
                    have HW : ∀ V, Below wr.heap.size wr V → Hid (Calls Tryz.prog 20 #[.agg #[.int .i64 xq, .slice xh xd.length xc], iv l[j].i] V (At.BoolPost V (wa ⟨xb, xs, xq, xd, xh, xc⟩ l[j].i))) := fun V hV =>
                      At.waits_any xq l[j].b l[j].s xh xc xd V ((HDx.out.to hB.out hB.out.size).to hV hV.size) (HWf.out _ HMy.out).1.1.2
                    have HK2 : Hid (wa ⟨xb, xs, xq, xd, xh, xc⟩ l[j].i = true → l[j].i ∈ D ∨ l[j].i ∈ o) := Hfk.out l[j]
                    have HDin : l[j].i ∈ D → ∀ V, Below wr.heap.size wr V → Hid (Calls Tryz.prog 18 #[.slice Ad D.length cd, iv l[j].i] V (fun e w' => ∃ z : Nat, e = .returned (.int .i64 (z : Int)) ∧ Below V.heap.size V w')) := fun h V hV => place_in Ad cd D _ h (by omega) V ((HDn.out.to hB.out hB.out.size).to hV hV.size)
                    have HDout : l[j].i ∉ D → ∀ V, Below wr.heap.size wr V → Hid (Calls Tryz.prog 18 #[.slice Ad D.length cd, iv l[j].i] V (fun e w' => e = .returned (.int .i64 (-1)) ∧ Below V.heap.size V w')) := fun h V hV => place_out Ad cd D _ h (by omega) V ((HDn.out.to hB.out hB.out.size).to hV hV.size)
                    have HOin : l[j].i ∈ o → ∀ V, Below wr.heap.size wr V → Hid (Calls Tryz.prog 18 #[.slice A3 o.length c3, iv l[j].i] V (fun e w' => ∃ z : Nat, e = .returned (.int .i64 (z : Int)) ∧ Below V.heap.size V w')) := fun h V hV => place_in A3 c3 o _ h (by omega) V ((HO.out.to hB.out hB.out.size).to hV hV.size)
                    generalize l[j] = y at *
                    obtain ⟨yb, ys, yq, yd, yh, yc⟩ := y
                    generalize wa ⟨xb, xs, xq, xd, xh, xc⟩ (No.i ⟨yb, ys, yq, yd, yh, yc⟩) = wv at *
                    simp only [iv, No.i] at *
                    have SB : Hid (∀ v, Below wr.heap.size wr v → v.cell? ⟨b, off + k * 4 + 2, none⟩ = some (.int .i64 xq) ∧ v.cell? ⟨b, off + k * 4 + 3, none⟩ = some (.slice xh xd.length xc) ∧ v.cell? ⟨b, off + j * 4, none⟩ = some (.int .i64 yb) ∧ v.cell? ⟨b, off + j * 4 + 1, none⟩ = some (.int .i64 ys)) := Lib.hid (fun v g => ⟨(World.cell?_of_block (g.block _ hbl)).trans p2, (World.cell?_of_block (g.block _ hbl)).trans p3, (World.cell?_of_block (g.block _ hbl)).trans q0, (World.cell?_of_block (g.block _ hbl)).trans q1⟩)
                    have BD : Hid (Below wr.heap.size wr wr.drew) := (Below.refl _ _).drew
                    clear p0 p1 p2 p3 q0 q1 q2 q3 hNw HMy
                    rcases wv with _ | _
                    · clear HK2 HDin HDout HOin
                      go_wp2_with fail
                      refine wp_region_held_drew (S := fun v => Below wr.heap.size wr v) (by kernel_rfl) BD.out (fun hH => ?_)
                      refine wpAnyH_take (i := 0) (v := ?v25) rfl (by kernel_rfl) (by kernel_rfl) (by kernel_rfl) (fun _ _ _ h => h) (Or.inl ⟨by rfl, ?hy25⟩) hH ?rest25
                      case hy25 => (intro w hSw; (try dsimp only at hSw); go_simp; try with_reducible rfl)
                      try simp only [Act.put, List.setIfInBounds_toArray, List.set_cons_zero, List.set_cons_succ, List.getElem_toArray, List.getElem_cons_zero]
                      refine wpAnyH_take (i := 1) (v := ?v26) rfl (by kernel_rfl) (by kernel_rfl) (by kernel_rfl) (fun _ _ _ h => h) (Or.inl ⟨by rfl, ?hy26⟩) hH ?rest26
                      case hy26 => (intro w hSw; (try dsimp only at hSw); go_simp; try with_reducible rfl)
                      try simp only [Act.put, List.setIfInBounds_toArray, List.set_cons_zero, List.set_cons_succ, List.getElem_toArray, List.getElem_cons_zero, List.getElem_cons_succ]
                      refine wpAnyH_take (i := 5) (v := ?v27) rfl (by kernel_rfl) (by kernel_rfl) (by kernel_rfl) (fun _ _ _ h => h) (Or.inl ⟨by rfl, ?hy27⟩) hH ?rest27
                      case hy27 => (intro w hSw; (try dsimp only at hSw); go_simp; try with_reducible rfl)
                      try simp only [Act.put, List.setIfInBounds_toArray, List.set_cons_zero, List.set_cons_succ, List.getElem_toArray, List.getElem_cons_zero, List.getElem_cons_succ]
                      refine wpAnyH_take (i := 6) (v := ?v28) rfl (by kernel_rfl) (by kernel_rfl) (by kernel_rfl) (fun _ _ _ h => h) (Or.inl ⟨by rfl, ?hy28⟩) hH ?rest28
                      case hy28 => (intro w hSw; (try dsimp only at hSw); go_simp; try with_reducible rfl)
                      try simp only [Act.put, List.setIfInBounds_toArray, List.set_cons_zero, List.set_cons_succ, List.getElem_toArray, List.getElem_cons_zero, List.getElem_cons_succ]
                      refine wpAnyH_take (i := 2) (v := ?v29) rfl (by kernel_rfl) (by kernel_rfl) (by kernel_rfl) (fun _ _ _ h => h) (Or.inl ⟨by rfl, ?hy29⟩) hH ?rest29
                      case hy29 => (intro w hSw; (try dsimp only at hSw); go_simp; try with_reducible rfl)
                      try simp only [Act.put, List.setIfInBounds_toArray, List.set_cons_zero, List.set_cons_succ, List.getElem_toArray, List.getElem_cons_zero, List.getElem_cons_succ]
                      refine wpAnyH_take (i := 7) (v := ?v30) rfl (by kernel_rfl) (by kernel_rfl) (by kernel_rfl) (fun _ _ _ h => h) (Or.inl ⟨by rfl, ?hy30⟩) hH ?rest30
                      case hy30 => (intro w hSw; (try dsimp only at hSw); go_simp; try with_reducible rfl)
                      try simp only [Act.put, List.setIfInBounds_toArray, List.set_cons_zero, List.set_cons_succ, List.getElem_toArray, List.getElem_cons_zero, List.getElem_cons_succ]
                      refine wpAnyH_take (i := 3) (v := ?v31) rfl (by kernel_rfl) (by kernel_rfl) (by kernel_rfl) (fun _ _ _ h => h) (Or.inl ⟨by rfl, ?hy31⟩) hH ?rest31
                      case hy31 => (intro w hSw; (try dsimp only at hSw); go_simp; try with_reducible rfl)
                      try simp only [Act.put, List.setIfInBounds_toArray, List.set_cons_zero, List.set_cons_succ, List.getElem_toArray, List.getElem_cons_zero, List.getElem_cons_succ]
                      refine wpAnyH_take (i := 8) (v := ?v32) rfl (by kernel_rfl) (by kernel_rfl) (by kernel_rfl) (fun _ _ _ h => h) (Or.inl ⟨by rfl, ?hy32⟩) hH ?rest32
                      case hy32 => (intro w hSw; (try dsimp only at hSw); go_simp; try with_reducible rfl)
                      try simp only [Act.put, List.setIfInBounds_toArray, List.set_cons_zero, List.set_cons_succ, List.getElem_toArray, List.getElem_cons_zero, List.getElem_cons_succ]
                      refine wpAnyH_take (i := 4) (v := ?v33) rfl (by kernel_rfl) (by kernel_rfl) (by kernel_rfl) (fun _ _ _ h => h) (Or.inl ⟨by rfl, ?hy33⟩) hH ?rest33
                      case hy33 => (intro w hSw; (try dsimp only at hSw); obtain ⟨f0, f1, f2, f3⟩ := SB.out w hSw; go_simp; try with_reducible rfl)
                      try simp only [Act.put, List.setIfInBounds_toArray, List.set_cons_zero, List.set_cons_succ, List.getElem_toArray, List.getElem_cons_zero, List.getElem_cons_succ]
                      refine wpAnyH_take (i := 9) (v := ?v34) rfl (by kernel_rfl) (by kernel_rfl) (by kernel_rfl) (fun _ _ _ h => h) (Or.inl ⟨by rfl, ?hy34⟩) hH ?rest34
                      case hy34 => (intro w hSw; (try dsimp only at hSw); obtain ⟨f0, f1, f2, f3⟩ := SB.out w hSw; go_simp; try with_reducible rfl)
                      try simp only [Act.put, List.setIfInBounds_toArray, List.set_cons_zero, List.set_cons_succ, List.getElem_toArray, List.getElem_cons_zero, List.getElem_cons_succ]
                      refine wpAnyH_ready (rs := [10]) (by kernel_rfl) (by simp) ?_
                      refine AllReadyH.cons rfl (fun K hK => ?_) AllReadyH.nil
                      go_simp
                      go_at_call 20
                      with_reducible refine (HW _ hH).out.mono ?_
                      rintro e wq35 ⟨rfl, bq35⟩
                      go_wp2_with fail
                      refine hK.out _ _ (hH.trans (bq35.mono hH.size)) (fun hH2 => ?_)
                      clear hK K hH
                      have hH := hH2
                      clear hH2
                      try simp only [Act.put, List.setIfInBounds_toArray, List.set_cons_zero, List.set_cons_succ, List.getElem_toArray, List.getElem_cons_zero, List.getElem_cons_succ]
                      refine wpAnyH_take (i := 11) (v := ?v36) rfl (by kernel_rfl) (by kernel_rfl) (by kernel_rfl) (fun _ _ _ h => h) (Or.inl ⟨by rfl, ?hy36⟩) hH ?rest36
                      case hy36 => (intro w hSw; (try dsimp only at hSw); go_simp; try with_reducible rfl)
                      try simp only [Act.put, List.setIfInBounds_toArray, List.set_cons_zero, List.set_cons_succ, List.getElem_toArray, List.getElem_cons_zero, List.getElem_cons_succ]
                      refine wpAnyH_take (i := 12) (v := undef) rfl (by kernel_rfl) (by kernel_rfl) (by kernel_rfl) (fun _ _ _ h => h) (Or.inr ⟨by rfl, rfl⟩) hH ?rest37
                      try simp only [Act.put, List.setIfInBounds_toArray, List.set_cons_zero, List.set_cons_succ, List.getElem_toArray, List.getElem_cons_zero, List.getElem_cons_succ]
                      refine wpAnyH_take (i := 13) (v := undef) rfl (by kernel_rfl) (by kernel_rfl) (by kernel_rfl) (fun _ _ _ h => h) (Or.inr ⟨by rfl, rfl⟩) hH ?rest38
                      try simp only [Act.put, List.setIfInBounds_toArray, List.set_cons_zero, List.set_cons_succ, List.getElem_toArray, List.getElem_cons_zero, List.getElem_cons_succ]
                      refine wpAnyH_take (i := 14) (v := undef) rfl (by kernel_rfl) (by kernel_rfl) (by kernel_rfl) (fun _ _ _ h => h) (Or.inr ⟨by rfl, rfl⟩) hH ?rest39
                      try simp only [Act.put, List.setIfInBounds_toArray, List.set_cons_zero, List.set_cons_succ, List.getElem_toArray, List.getElem_cons_zero, List.getElem_cons_succ]
                      refine wpAnyH_take (i := 15) (v := undef) rfl (by kernel_rfl) (by kernel_rfl) (by kernel_rfl) (fun _ _ _ h => h) (Or.inr ⟨by rfl, rfl⟩) hH ?rest40
                      try simp only [Act.put, List.setIfInBounds_toArray, List.set_cons_zero, List.set_cons_succ, List.getElem_toArray, List.getElem_cons_zero, List.getElem_cons_succ]
                      refine wpAnyH_take (i := 16) (v := undef) rfl (by kernel_rfl) (by kernel_rfl) (by kernel_rfl) (fun _ _ _ h => h) (Or.inr ⟨by rfl, rfl⟩) hH ?rest41
                      try simp only [Act.put, List.setIfInBounds_toArray, List.set_cons_zero, List.set_cons_succ, List.getElem_toArray, List.getElem_cons_zero, List.getElem_cons_succ]
                      refine wpAnyH_take (i := 17) (v := undef) rfl (by kernel_rfl) (by kernel_rfl) (by kernel_rfl) (fun _ _ _ h => h) (Or.inr ⟨by rfl, rfl⟩) hH ?rest42
                      try simp only [Act.put, List.setIfInBounds_toArray, List.set_cons_zero, List.set_cons_succ, List.getElem_toArray, List.getElem_cons_zero, List.getElem_cons_succ]
                      refine wpAnyH_take (i := 18) (v := undef) rfl (by kernel_rfl) (by kernel_rfl) (by kernel_rfl) (fun _ _ _ h => h) (Or.inr ⟨by rfl, rfl⟩) hH ?rest43
                      try simp only [Act.put, List.setIfInBounds_toArray, List.set_cons_zero, List.set_cons_succ, List.getElem_toArray, List.getElem_cons_zero, List.getElem_cons_succ]
                      refine wpAnyH_take (i := 19) (v := undef) rfl (by kernel_rfl) (by kernel_rfl) (by kernel_rfl) (fun _ _ _ h => h) (Or.inr ⟨by rfl, rfl⟩) hH ?rest44
                      try simp only [Act.put, List.setIfInBounds_toArray, List.set_cons_zero, List.set_cons_succ, List.getElem_toArray, List.getElem_cons_zero, List.getElem_cons_succ]
                      refine wpAnyH_take (i := 20) (v := ?v45) rfl (by kernel_rfl) (by kernel_rfl) (by kernel_rfl) (fun _ _ _ h => h) (Or.inl ⟨by rfl, ?hy45⟩) hH ?rest45
                      case hy45 => (intro w hSw; (try dsimp only at hSw); go_simp; try with_reducible rfl)
                      try simp only [Act.put, List.setIfInBounds_toArray, List.set_cons_zero, List.set_cons_succ, List.getElem_toArray, List.getElem_cons_zero, List.getElem_cons_succ]
                      refine wpAnyH_take (i := 21) (v := ?v46) rfl (by kernel_rfl) (by kernel_rfl) (by kernel_rfl) (fun _ _ _ h => h) (Or.inl ⟨by rfl, ?hy46⟩) hH ?rest46
                      case hy46 => (intro w hSw; (try dsimp only at hSw); go_simp; try with_reducible rfl)
                      try simp only [Act.put, List.setIfInBounds_toArray, List.set_cons_zero, List.set_cons_succ, List.getElem_toArray, List.getElem_cons_zero, List.getElem_cons_succ]
                      refine wpAnyH_take (i := 22) (v := undef) rfl (by kernel_rfl) (by kernel_rfl) (by kernel_rfl) (fun _ _ _ h => h) (Or.inr ⟨by rfl, rfl⟩) hH ?rest47
                      try simp only [Act.put, List.setIfInBounds_toArray, List.set_cons_zero, List.set_cons_succ, List.getElem_toArray, List.getElem_cons_zero, List.getElem_cons_succ]
                      refine wpAnyH_take (i := 23) (v := undef) rfl (by kernel_rfl) (by kernel_rfl) (by kernel_rfl) (fun _ _ _ h => h) (Or.inr ⟨by rfl, rfl⟩) hH ?rest48
                      try simp only [Act.put, List.setIfInBounds_toArray, List.set_cons_zero, List.set_cons_succ, List.getElem_toArray, List.getElem_cons_zero, List.getElem_cons_succ]
                      refine wpAnyH_take (i := 24) (v := undef) rfl (by kernel_rfl) (by kernel_rfl) (by kernel_rfl) (fun _ _ _ h => h) (Or.inr ⟨by rfl, rfl⟩) hH ?rest49
                      try simp only [Act.put, List.setIfInBounds_toArray, List.set_cons_zero, List.set_cons_succ, List.getElem_toArray, List.getElem_cons_zero, List.getElem_cons_succ]
                      refine wpAnyH_take (i := 25) (v := undef) rfl (by kernel_rfl) (by kernel_rfl) (by kernel_rfl) (fun _ _ _ h => h) (Or.inr ⟨by rfl, rfl⟩) hH ?rest50
                      try simp only [Act.put, List.setIfInBounds_toArray, List.set_cons_zero, List.set_cons_succ, List.getElem_toArray, List.getElem_cons_zero, List.getElem_cons_succ]
                      refine wpAnyH_take (i := 26) (v := undef) rfl (by kernel_rfl) (by kernel_rfl) (by kernel_rfl) (fun _ _ _ h => h) (Or.inr ⟨by rfl, rfl⟩) hH ?rest51
                      try simp only [Act.put, List.setIfInBounds_toArray, List.set_cons_zero, List.set_cons_succ, List.getElem_toArray, List.getElem_cons_zero, List.getElem_cons_succ]
                      refine wpAnyH_take (i := 27) (v := undef) rfl (by kernel_rfl) (by kernel_rfl) (by kernel_rfl) (fun _ _ _ h => h) (Or.inr ⟨by rfl, rfl⟩) hH ?rest52
                      try simp only [Act.put, List.setIfInBounds_toArray, List.set_cons_zero, List.set_cons_succ, List.getElem_toArray, List.getElem_cons_zero, List.getElem_cons_succ]
                      refine wpAnyH_take (i := 28) (v := undef) rfl (by kernel_rfl) (by kernel_rfl) (by kernel_rfl) (fun _ _ _ h => h) (Or.inr ⟨by rfl, rfl⟩) hH ?rest53
                      try simp only [Act.put, List.setIfInBounds_toArray, List.set_cons_zero, List.set_cons_succ, List.getElem_toArray, List.getElem_cons_zero, List.getElem_cons_succ]
                      refine wpAnyH_take (i := 29) (v := undef) rfl (by kernel_rfl) (by kernel_rfl) (by kernel_rfl) (fun _ _ _ h => h) (Or.inr ⟨by rfl, rfl⟩) hH ?rest54
                      try simp only [Act.put, List.setIfInBounds_toArray, List.set_cons_zero, List.set_cons_succ, List.getElem_toArray, List.getElem_cons_zero, List.getElem_cons_succ]
                      refine wpAnyH_take (i := 30) (v := ?v55) rfl (by kernel_rfl) (by kernel_rfl) (by kernel_rfl) (fun _ _ _ h => h) (Or.inl ⟨by rfl, ?hy55⟩) hH ?rest55
                      case hy55 => (intro w hSw; (try dsimp only at hSw); go_simp; try with_reducible rfl)
                      try simp only [Act.put, List.setIfInBounds_toArray, List.set_cons_zero, List.set_cons_succ, List.getElem_toArray, List.getElem_cons_zero, List.getElem_cons_succ]
                      refine wpAnyH_done (by kernel_rfl) ?_ _
                      have HB8 := Lib.hid (hB.out.trans (hH.mono hB.out.size))
                      clear HW SB BD hB hH
                      go_wp2
                      go_roundg (l.length - (j + 1))
                      case measure => omega
                      case rel => exact ⟨j + 1, by omega, by go_num, HB8.out⟩
                    · by_cases hyD : (yb, ys) ∈ D
                      · have HP := HDin hyD
                        clear HK2 HDin HDout HOin hyD
                        go_wp2_with fail
                        refine wp_region_held_drew (S := fun v => Below wr.heap.size wr v) (by kernel_rfl) BD.out (fun hH => ?_)
                        refine wpAnyH_take (i := 0) (v := ?v56) rfl (by kernel_rfl) (by kernel_rfl) (by kernel_rfl) (fun _ _ _ h => h) (Or.inl ⟨by rfl, ?hy56⟩) hH ?rest56
                        case hy56 => (intro w hSw; (try dsimp only at hSw); go_simp; try with_reducible rfl)
                        try simp only [Act.put, List.setIfInBounds_toArray, List.set_cons_zero, List.set_cons_succ, List.getElem_toArray, List.getElem_cons_zero]
                        refine wpAnyH_take (i := 1) (v := ?v57) rfl (by kernel_rfl) (by kernel_rfl) (by kernel_rfl) (fun _ _ _ h => h) (Or.inl ⟨by rfl, ?hy57⟩) hH ?rest57
                        case hy57 => (intro w hSw; (try dsimp only at hSw); go_simp; try with_reducible rfl)
                        try simp only [Act.put, List.setIfInBounds_toArray, List.set_cons_zero, List.set_cons_succ, List.getElem_toArray, List.getElem_cons_zero, List.getElem_cons_succ]
                        refine wpAnyH_take (i := 5) (v := ?v58) rfl (by kernel_rfl) (by kernel_rfl) (by kernel_rfl) (fun _ _ _ h => h) (Or.inl ⟨by rfl, ?hy58⟩) hH ?rest58
                        case hy58 => (intro w hSw; (try dsimp only at hSw); go_simp; try with_reducible rfl)
                        try simp only [Act.put, List.setIfInBounds_toArray, List.set_cons_zero, List.set_cons_succ, List.getElem_toArray, List.getElem_cons_zero, List.getElem_cons_succ]
                        refine wpAnyH_take (i := 6) (v := ?v59) rfl (by kernel_rfl) (by kernel_rfl) (by kernel_rfl) (fun _ _ _ h => h) (Or.inl ⟨by rfl, ?hy59⟩) hH ?rest59
                        case hy59 => (intro w hSw; (try dsimp only at hSw); go_simp; try with_reducible rfl)
                        try simp only [Act.put, List.setIfInBounds_toArray, List.set_cons_zero, List.set_cons_succ, List.getElem_toArray, List.getElem_cons_zero, List.getElem_cons_succ]
                        refine wpAnyH_take (i := 2) (v := ?v60) rfl (by kernel_rfl) (by kernel_rfl) (by kernel_rfl) (fun _ _ _ h => h) (Or.inl ⟨by rfl, ?hy60⟩) hH ?rest60
                        case hy60 => (intro w hSw; (try dsimp only at hSw); go_simp; try with_reducible rfl)
                        try simp only [Act.put, List.setIfInBounds_toArray, List.set_cons_zero, List.set_cons_succ, List.getElem_toArray, List.getElem_cons_zero, List.getElem_cons_succ]
                        refine wpAnyH_take (i := 7) (v := ?v61) rfl (by kernel_rfl) (by kernel_rfl) (by kernel_rfl) (fun _ _ _ h => h) (Or.inl ⟨by rfl, ?hy61⟩) hH ?rest61
                        case hy61 => (intro w hSw; (try dsimp only at hSw); go_simp; try with_reducible rfl)
                        try simp only [Act.put, List.setIfInBounds_toArray, List.set_cons_zero, List.set_cons_succ, List.getElem_toArray, List.getElem_cons_zero, List.getElem_cons_succ]
                        refine wpAnyH_take (i := 3) (v := ?v62) rfl (by kernel_rfl) (by kernel_rfl) (by kernel_rfl) (fun _ _ _ h => h) (Or.inl ⟨by rfl, ?hy62⟩) hH ?rest62
                        case hy62 => (intro w hSw; (try dsimp only at hSw); go_simp; try with_reducible rfl)
                        try simp only [Act.put, List.setIfInBounds_toArray, List.set_cons_zero, List.set_cons_succ, List.getElem_toArray, List.getElem_cons_zero, List.getElem_cons_succ]
                        refine wpAnyH_take (i := 8) (v := ?v63) rfl (by kernel_rfl) (by kernel_rfl) (by kernel_rfl) (fun _ _ _ h => h) (Or.inl ⟨by rfl, ?hy63⟩) hH ?rest63
                        case hy63 => (intro w hSw; (try dsimp only at hSw); go_simp; try with_reducible rfl)
                        try simp only [Act.put, List.setIfInBounds_toArray, List.set_cons_zero, List.set_cons_succ, List.getElem_toArray, List.getElem_cons_zero, List.getElem_cons_succ]
                        refine wpAnyH_take (i := 4) (v := ?v64) rfl (by kernel_rfl) (by kernel_rfl) (by kernel_rfl) (fun _ _ _ h => h) (Or.inl ⟨by rfl, ?hy64⟩) hH ?rest64
                        case hy64 => (intro w hSw; (try dsimp only at hSw); obtain ⟨f0, f1, f2, f3⟩ := SB.out w hSw; go_simp; try with_reducible rfl)
                        try simp only [Act.put, List.setIfInBounds_toArray, List.set_cons_zero, List.set_cons_succ, List.getElem_toArray, List.getElem_cons_zero, List.getElem_cons_succ]
                        refine wpAnyH_take (i := 9) (v := ?v65) rfl (by kernel_rfl) (by kernel_rfl) (by kernel_rfl) (fun _ _ _ h => h) (Or.inl ⟨by rfl, ?hy65⟩) hH ?rest65
                        case hy65 => (intro w hSw; (try dsimp only at hSw); obtain ⟨f0, f1, f2, f3⟩ := SB.out w hSw; go_simp; try with_reducible rfl)
                        try simp only [Act.put, List.setIfInBounds_toArray, List.set_cons_zero, List.set_cons_succ, List.getElem_toArray, List.getElem_cons_zero, List.getElem_cons_succ]
                        refine wpAnyH_ready (rs := [10]) (by kernel_rfl) (by simp) ?_
                        refine AllReadyH.cons rfl (fun K hK => ?_) AllReadyH.nil
                        go_simp
                        go_at_call 20
                        with_reducible refine (HW _ hH).out.mono ?_
                        rintro e wq66 ⟨rfl, bq66⟩
                        go_wp2_with fail
                        refine hK.out _ _ (hH.trans (bq66.mono hH.size)) (fun hH2 => ?_)
                        clear hK K hH
                        have hH := hH2
                        clear hH2
                        try simp only [Act.put, List.setIfInBounds_toArray, List.set_cons_zero, List.set_cons_succ, List.getElem_toArray, List.getElem_cons_zero, List.getElem_cons_succ]
                        refine wpAnyH_take (i := 11) (v := ?v67) rfl (by kernel_rfl) (by kernel_rfl) (by kernel_rfl) (fun _ _ _ h => h) (Or.inl ⟨by rfl, ?hy67⟩) hH ?rest67
                        case hy67 => (intro w hSw; (try dsimp only at hSw); go_simp; try with_reducible rfl)
                        try simp only [Act.put, List.setIfInBounds_toArray, List.set_cons_zero, List.set_cons_succ, List.getElem_toArray, List.getElem_cons_zero, List.getElem_cons_succ]
                        refine wpAnyH_take (i := 12) (v := ?v68) rfl (by kernel_rfl) (by kernel_rfl) (by kernel_rfl) (fun _ _ _ h => h) (Or.inl ⟨by rfl, ?hy68⟩) hH ?rest68
                        case hy68 => (intro w hSw; (try dsimp only at hSw); go_simp; try with_reducible rfl)
                        try simp only [Act.put, List.setIfInBounds_toArray, List.set_cons_zero, List.set_cons_succ, List.getElem_toArray, List.getElem_cons_zero, List.getElem_cons_succ]
                        refine wpAnyH_take (i := 13) (v := ?v69) rfl (by kernel_rfl) (by kernel_rfl) (by kernel_rfl) (fun _ _ _ h => h) (Or.inl ⟨by rfl, ?hy69⟩) hH ?rest69
                        case hy69 => (intro w hSw; (try dsimp only at hSw); go_simp; try with_reducible rfl)
                        try simp only [Act.put, List.setIfInBounds_toArray, List.set_cons_zero, List.set_cons_succ, List.getElem_toArray, List.getElem_cons_zero, List.getElem_cons_succ]
                        refine wpAnyH_take (i := 14) (v := ?v70) rfl (by kernel_rfl) (by kernel_rfl) (by kernel_rfl) (fun _ _ _ h => h) (Or.inl ⟨by rfl, ?hy70⟩) hH ?rest70
                        case hy70 => (intro w hSw; (try dsimp only at hSw); go_simp; try with_reducible rfl)
                        try simp only [Act.put, List.setIfInBounds_toArray, List.set_cons_zero, List.set_cons_succ, List.getElem_toArray, List.getElem_cons_zero, List.getElem_cons_succ]
                        refine wpAnyH_take (i := 15) (v := ?v71) rfl (by kernel_rfl) (by kernel_rfl) (by kernel_rfl) (fun _ _ _ h => h) (Or.inl ⟨by rfl, ?hy71⟩) hH ?rest71
                        case hy71 => (intro w hSw; (try dsimp only at hSw); go_simp; try with_reducible rfl)
                        try simp only [Act.put, List.setIfInBounds_toArray, List.set_cons_zero, List.set_cons_succ, List.getElem_toArray, List.getElem_cons_zero, List.getElem_cons_succ]
                        refine wpAnyH_take (i := 16) (v := ?v72) rfl (by kernel_rfl) (by kernel_rfl) (by kernel_rfl) (fun _ _ _ h => h) (Or.inl ⟨by rfl, ?hy72⟩) hH ?rest72
                        case hy72 => (intro w hSw; (try dsimp only at hSw); go_simp; try with_reducible rfl)
                        try simp only [Act.put, List.setIfInBounds_toArray, List.set_cons_zero, List.set_cons_succ, List.getElem_toArray, List.getElem_cons_zero, List.getElem_cons_succ]
                        refine wpAnyH_take (i := 17) (v := ?v73) rfl (by kernel_rfl) (by kernel_rfl) (by kernel_rfl) (fun _ _ _ h => h) (Or.inl ⟨by rfl, ?hy73⟩) hH ?rest73
                        case hy73 => (intro w hSw; (try dsimp only at hSw); obtain ⟨f0, f1, f2, f3⟩ := SB.out w hSw; go_simp; try with_reducible rfl)
                        try simp only [Act.put, List.setIfInBounds_toArray, List.set_cons_zero, List.set_cons_succ, List.getElem_toArray, List.getElem_cons_zero, List.getElem_cons_succ]
                        refine wpAnyH_ready (rs := [18]) (by kernel_rfl) (by simp) ?_
                        refine AllReadyH.cons rfl (fun K hK => ?_) AllReadyH.nil
                        go_simp
                        go_at_call 18
                        with_reducible refine (HP _ hH).out.mono ?_
                        rintro e wq74 ⟨zn74, rfl, bq74⟩
                        have hzn74 : decide ((zn74 : Int) < 0) = false := decide_eq_false (by omega)
                        go_wp2_with fail
                        refine hK.out _ _ (hH.trans (bq74.mono hH.size)) (fun hH2 => ?_)
                        clear hK K hH
                        have hH := hH2
                        clear hH2
                        try simp only [Act.put, List.setIfInBounds_toArray, List.set_cons_zero, List.set_cons_succ, List.getElem_toArray, List.getElem_cons_zero, List.getElem_cons_succ]
                        refine wpAnyH_take (i := 19) (v := ?v75) rfl (by kernel_rfl) (by kernel_rfl) (by kernel_rfl) (fun _ _ _ h => h) (Or.inl ⟨by rfl, ?hy75⟩) hH ?rest75
                        case hy75 => (intro w hSw; (try dsimp only at hSw); go_simp; try with_reducible rfl)
                        try simp only [Act.put, List.setIfInBounds_toArray, List.set_cons_zero, List.set_cons_succ, List.getElem_toArray, List.getElem_cons_zero, List.getElem_cons_succ]
                        refine wpAnyH_take (i := 20) (v := ?v76) rfl (by kernel_rfl) (by kernel_rfl) (by kernel_rfl) (fun _ _ _ h => h) (Or.inl ⟨by rfl, ?hy76⟩) hH ?rest76
                        case hy76 => (intro w hSw; (try dsimp only at hSw); go_simp; try with_reducible rfl)
                        try simp only [Act.put, List.setIfInBounds_toArray, List.set_cons_zero, List.set_cons_succ, List.getElem_toArray, List.getElem_cons_zero, List.getElem_cons_succ]
                        refine wpAnyH_take (i := 21) (v := ?v77) rfl (by kernel_rfl) (by kernel_rfl) (by kernel_rfl) (fun _ _ _ h => h) (Or.inl ⟨by rfl, ?hy77⟩) hH ?rest77
                        case hy77 => (intro w hSw; (try dsimp only at hSw); go_simp; try with_reducible rfl)
                        try simp only [Act.put, List.setIfInBounds_toArray, List.set_cons_zero, List.set_cons_succ, List.getElem_toArray, List.getElem_cons_zero, List.getElem_cons_succ]
                        refine wpAnyH_take (i := 22) (v := undef) rfl (by kernel_rfl) (by kernel_rfl) (by kernel_rfl) (fun _ _ _ h => h) (Or.inr ⟨by rfl, rfl⟩) hH ?rest78
                        try simp only [Act.put, List.setIfInBounds_toArray, List.set_cons_zero, List.set_cons_succ, List.getElem_toArray, List.getElem_cons_zero, List.getElem_cons_succ]
                        refine wpAnyH_take (i := 23) (v := undef) rfl (by kernel_rfl) (by kernel_rfl) (by kernel_rfl) (fun _ _ _ h => h) (Or.inr ⟨by rfl, rfl⟩) hH ?rest79
                        try simp only [Act.put, List.setIfInBounds_toArray, List.set_cons_zero, List.set_cons_succ, List.getElem_toArray, List.getElem_cons_zero, List.getElem_cons_succ]
                        refine wpAnyH_take (i := 24) (v := undef) rfl (by kernel_rfl) (by kernel_rfl) (by kernel_rfl) (fun _ _ _ h => h) (Or.inr ⟨by rfl, rfl⟩) hH ?rest80
                        try simp only [Act.put, List.setIfInBounds_toArray, List.set_cons_zero, List.set_cons_succ, List.getElem_toArray, List.getElem_cons_zero, List.getElem_cons_succ]
                        refine wpAnyH_take (i := 25) (v := undef) rfl (by kernel_rfl) (by kernel_rfl) (by kernel_rfl) (fun _ _ _ h => h) (Or.inr ⟨by rfl, rfl⟩) hH ?rest81
                        try simp only [Act.put, List.setIfInBounds_toArray, List.set_cons_zero, List.set_cons_succ, List.getElem_toArray, List.getElem_cons_zero, List.getElem_cons_succ]
                        refine wpAnyH_take (i := 26) (v := undef) rfl (by kernel_rfl) (by kernel_rfl) (by kernel_rfl) (fun _ _ _ h => h) (Or.inr ⟨by rfl, rfl⟩) hH ?rest82
                        try simp only [Act.put, List.setIfInBounds_toArray, List.set_cons_zero, List.set_cons_succ, List.getElem_toArray, List.getElem_cons_zero, List.getElem_cons_succ]
                        refine wpAnyH_take (i := 27) (v := undef) rfl (by kernel_rfl) (by kernel_rfl) (by kernel_rfl) (fun _ _ _ h => h) (Or.inr ⟨by rfl, rfl⟩) hH ?rest83
                        try simp only [Act.put, List.setIfInBounds_toArray, List.set_cons_zero, List.set_cons_succ, List.getElem_toArray, List.getElem_cons_zero, List.getElem_cons_succ]
                        refine wpAnyH_take (i := 28) (v := undef) rfl (by kernel_rfl) (by kernel_rfl) (by kernel_rfl) (fun _ _ _ h => h) (Or.inr ⟨by rfl, rfl⟩) hH ?rest84
                        try simp only [Act.put, List.setIfInBounds_toArray, List.set_cons_zero, List.set_cons_succ, List.getElem_toArray, List.getElem_cons_zero, List.getElem_cons_succ]
                        refine wpAnyH_take (i := 29) (v := undef) rfl (by kernel_rfl) (by kernel_rfl) (by kernel_rfl) (fun _ _ _ h => h) (Or.inr ⟨by rfl, rfl⟩) hH ?rest85
                        try simp only [Act.put, List.setIfInBounds_toArray, List.set_cons_zero, List.set_cons_succ, List.getElem_toArray, List.getElem_cons_zero, List.getElem_cons_succ]
                        refine wpAnyH_take (i := 30) (v := ?v86) rfl (by kernel_rfl) (by kernel_rfl) (by kernel_rfl) (fun _ _ _ h => h) (Or.inl ⟨by rfl, ?hy86⟩) hH ?rest86
                        case hy86 => (intro w hSw; (try dsimp only at hSw); go_simp; try with_reducible rfl)
                        try simp only [Act.put, List.setIfInBounds_toArray, List.set_cons_zero, List.set_cons_succ, List.getElem_toArray, List.getElem_cons_zero, List.getElem_cons_succ]
                        refine wpAnyH_done (by kernel_rfl) ?_ _
                        clear HP
                        have HB8 := Lib.hid (hB.out.trans (hH.mono hB.out.size))
                        clear HW SB BD hB hH
                        go_wp2
                        go_roundg (l.length - (j + 1))
                        case measure => omega
                        case rel => exact ⟨j + 1, by omega, by go_num, HB8.out⟩
                      · have HP := HDout hyD
                        have HQ := HOin ((HK2.out rfl).resolve_left hyD)
                        clear HK2 HDin HDout HOin hyD
                        go_wp2_with fail
                        refine wp_region_held_drew (S := fun v => Below wr.heap.size wr v) (by kernel_rfl) BD.out (fun hH => ?_)
                        refine wpAnyH_take (i := 0) (v := ?v87) rfl (by kernel_rfl) (by kernel_rfl) (by kernel_rfl) (fun _ _ _ h => h) (Or.inl ⟨by rfl, ?hy87⟩) hH ?rest87
                        case hy87 => (intro w hSw; (try dsimp only at hSw); go_simp; try with_reducible rfl)
                        try simp only [Act.put, List.setIfInBounds_toArray, List.set_cons_zero, List.set_cons_succ, List.getElem_toArray, List.getElem_cons_zero]
                        refine wpAnyH_take (i := 1) (v := ?v88) rfl (by kernel_rfl) (by kernel_rfl) (by kernel_rfl) (fun _ _ _ h => h) (Or.inl ⟨by rfl, ?hy88⟩) hH ?rest88
                        case hy88 => (intro w hSw; (try dsimp only at hSw); go_simp; try with_reducible rfl)
                        try simp only [Act.put, List.setIfInBounds_toArray, List.set_cons_zero, List.set_cons_succ, List.getElem_toArray, List.getElem_cons_zero, List.getElem_cons_succ]
                        refine wpAnyH_take (i := 5) (v := ?v89) rfl (by kernel_rfl) (by kernel_rfl) (by kernel_rfl) (fun _ _ _ h => h) (Or.inl ⟨by rfl, ?hy89⟩) hH ?rest89
                        case hy89 => (intro w hSw; (try dsimp only at hSw); go_simp; try with_reducible rfl)
                        try simp only [Act.put, List.setIfInBounds_toArray, List.set_cons_zero, List.set_cons_succ, List.getElem_toArray, List.getElem_cons_zero, List.getElem_cons_succ]
                        refine wpAnyH_take (i := 6) (v := ?v90) rfl (by kernel_rfl) (by kernel_rfl) (by kernel_rfl) (fun _ _ _ h => h) (Or.inl ⟨by rfl, ?hy90⟩) hH ?rest90
                        case hy90 => (intro w hSw; (try dsimp only at hSw); go_simp; try with_reducible rfl)
                        try simp only [Act.put, List.setIfInBounds_toArray, List.set_cons_zero, List.set_cons_succ, List.getElem_toArray, List.getElem_cons_zero, List.getElem_cons_succ]
                        refine wpAnyH_take (i := 2) (v := ?v91) rfl (by kernel_rfl) (by kernel_rfl) (by kernel_rfl) (fun _ _ _ h => h) (Or.inl ⟨by rfl, ?hy91⟩) hH ?rest91
                        case hy91 => (intro w hSw; (try dsimp only at hSw); go_simp; try with_reducible rfl)
                        try simp only [Act.put, List.setIfInBounds_toArray, List.set_cons_zero, List.set_cons_succ, List.getElem_toArray, List.getElem_cons_zero, List.getElem_cons_succ]
                        refine wpAnyH_take (i := 7) (v := ?v92) rfl (by kernel_rfl) (by kernel_rfl) (by kernel_rfl) (fun _ _ _ h => h) (Or.inl ⟨by rfl, ?hy92⟩) hH ?rest92
                        case hy92 => (intro w hSw; (try dsimp only at hSw); go_simp; try with_reducible rfl)
                        try simp only [Act.put, List.setIfInBounds_toArray, List.set_cons_zero, List.set_cons_succ, List.getElem_toArray, List.getElem_cons_zero, List.getElem_cons_succ]
                        refine wpAnyH_take (i := 3) (v := ?v93) rfl (by kernel_rfl) (by kernel_rfl) (by kernel_rfl) (fun _ _ _ h => h) (Or.inl ⟨by rfl, ?hy93⟩) hH ?rest93
                        case hy93 => (intro w hSw; (try dsimp only at hSw); go_simp; try with_reducible rfl)
                        try simp only [Act.put, List.setIfInBounds_toArray, List.set_cons_zero, List.set_cons_succ, List.getElem_toArray, List.getElem_cons_zero, List.getElem_cons_succ]
                        refine wpAnyH_take (i := 8) (v := ?v94) rfl (by kernel_rfl) (by kernel_rfl) (by kernel_rfl) (fun _ _ _ h => h) (Or.inl ⟨by rfl, ?hy94⟩) hH ?rest94
                        case hy94 => (intro w hSw; (try dsimp only at hSw); go_simp; try with_reducible rfl)
                        try simp only [Act.put, List.setIfInBounds_toArray, List.set_cons_zero, List.set_cons_succ, List.getElem_toArray, List.getElem_cons_zero, List.getElem_cons_succ]
                        refine wpAnyH_take (i := 4) (v := ?v95) rfl (by kernel_rfl) (by kernel_rfl) (by kernel_rfl) (fun _ _ _ h => h) (Or.inl ⟨by rfl, ?hy95⟩) hH ?rest95
                        case hy95 => (intro w hSw; (try dsimp only at hSw); obtain ⟨f0, f1, f2, f3⟩ := SB.out w hSw; go_simp; try with_reducible rfl)
                        try simp only [Act.put, List.setIfInBounds_toArray, List.set_cons_zero, List.set_cons_succ, List.getElem_toArray, List.getElem_cons_zero, List.getElem_cons_succ]
                        refine wpAnyH_take (i := 9) (v := ?v96) rfl (by kernel_rfl) (by kernel_rfl) (by kernel_rfl) (fun _ _ _ h => h) (Or.inl ⟨by rfl, ?hy96⟩) hH ?rest96
                        case hy96 => (intro w hSw; (try dsimp only at hSw); obtain ⟨f0, f1, f2, f3⟩ := SB.out w hSw; go_simp; try with_reducible rfl)
                        try simp only [Act.put, List.setIfInBounds_toArray, List.set_cons_zero, List.set_cons_succ, List.getElem_toArray, List.getElem_cons_zero, List.getElem_cons_succ]
                        refine wpAnyH_ready (rs := [10]) (by kernel_rfl) (by simp) ?_
                        refine AllReadyH.cons rfl (fun K hK => ?_) AllReadyH.nil
                        go_simp
                        go_at_call 20
                        with_reducible refine (HW _ hH).out.mono ?_
                        rintro e wq97 ⟨rfl, bq97⟩
                        go_wp2_with fail
                        refine hK.out _ _ (hH.trans (bq97.mono hH.size)) (fun hH2 => ?_)
                        clear hK K hH
                        have hH := hH2
                        clear hH2
                        try simp only [Act.put, List.setIfInBounds_toArray, List.set_cons_zero, List.set_cons_succ, List.getElem_toArray, List.getElem_cons_zero, List.getElem_cons_succ]
                        refine wpAnyH_take (i := 11) (v := ?v98) rfl (by kernel_rfl) (by kernel_rfl) (by kernel_rfl) (fun _ _ _ h => h) (Or.inl ⟨by rfl, ?hy98⟩) hH ?rest98
                        case hy98 => (intro w hSw; (try dsimp only at hSw); go_simp; try with_reducible rfl)
                        try simp only [Act.put, List.setIfInBounds_toArray, List.set_cons_zero, List.set_cons_succ, List.getElem_toArray, List.getElem_cons_zero, List.getElem_cons_succ]
                        refine wpAnyH_take (i := 12) (v := ?v99) rfl (by kernel_rfl) (by kernel_rfl) (by kernel_rfl) (fun _ _ _ h => h) (Or.inl ⟨by rfl, ?hy99⟩) hH ?rest99
                        case hy99 => (intro w hSw; (try dsimp only at hSw); go_simp; try with_reducible rfl)
                        try simp only [Act.put, List.setIfInBounds_toArray, List.set_cons_zero, List.set_cons_succ, List.getElem_toArray, List.getElem_cons_zero, List.getElem_cons_succ]
                        refine wpAnyH_take (i := 13) (v := ?v100) rfl (by kernel_rfl) (by kernel_rfl) (by kernel_rfl) (fun _ _ _ h => h) (Or.inl ⟨by rfl, ?hy100⟩) hH ?rest100
                        case hy100 => (intro w hSw; (try dsimp only at hSw); go_simp; try with_reducible rfl)
                        try simp only [Act.put, List.setIfInBounds_toArray, List.set_cons_zero, List.set_cons_succ, List.getElem_toArray, List.getElem_cons_zero, List.getElem_cons_succ]
                        refine wpAnyH_take (i := 14) (v := ?v101) rfl (by kernel_rfl) (by kernel_rfl) (by kernel_rfl) (fun _ _ _ h => h) (Or.inl ⟨by rfl, ?hy101⟩) hH ?rest101
                        case hy101 => (intro w hSw; (try dsimp only at hSw); go_simp; try with_reducible rfl)
                        try simp only [Act.put, List.setIfInBounds_toArray, List.set_cons_zero, List.set_cons_succ, List.getElem_toArray, List.getElem_cons_zero, List.getElem_cons_succ]
                        refine wpAnyH_take (i := 15) (v := ?v102) rfl (by kernel_rfl) (by kernel_rfl) (by kernel_rfl) (fun _ _ _ h => h) (Or.inl ⟨by rfl, ?hy102⟩) hH ?rest102
                        case hy102 => (intro w hSw; (try dsimp only at hSw); go_simp; try with_reducible rfl)
                        try simp only [Act.put, List.setIfInBounds_toArray, List.set_cons_zero, List.set_cons_succ, List.getElem_toArray, List.getElem_cons_zero, List.getElem_cons_succ]
                        refine wpAnyH_take (i := 16) (v := ?v103) rfl (by kernel_rfl) (by kernel_rfl) (by kernel_rfl) (fun _ _ _ h => h) (Or.inl ⟨by rfl, ?hy103⟩) hH ?rest103
                        case hy103 => (intro w hSw; (try dsimp only at hSw); go_simp; try with_reducible rfl)
                        try simp only [Act.put, List.setIfInBounds_toArray, List.set_cons_zero, List.set_cons_succ, List.getElem_toArray, List.getElem_cons_zero, List.getElem_cons_succ]
                        refine wpAnyH_take (i := 17) (v := ?v104) rfl (by kernel_rfl) (by kernel_rfl) (by kernel_rfl) (fun _ _ _ h => h) (Or.inl ⟨by rfl, ?hy104⟩) hH ?rest104
                        case hy104 => (intro w hSw; (try dsimp only at hSw); obtain ⟨f0, f1, f2, f3⟩ := SB.out w hSw; go_simp; try with_reducible rfl)
                        try simp only [Act.put, List.setIfInBounds_toArray, List.set_cons_zero, List.set_cons_succ, List.getElem_toArray, List.getElem_cons_zero, List.getElem_cons_succ]
                        refine wpAnyH_ready (rs := [18]) (by kernel_rfl) (by simp) ?_
                        refine AllReadyH.cons rfl (fun K hK => ?_) AllReadyH.nil
                        go_simp
                        go_at_call 18
                        with_reducible refine (HP _ hH).out.mono ?_
                        rintro e wq105 ⟨rfl, bq105⟩
                        go_wp2_with fail
                        refine hK.out _ _ (hH.trans (bq105.mono hH.size)) (fun hH2 => ?_)
                        clear hK K hH
                        have hH := hH2
                        clear hH2
                        try simp only [Act.put, List.setIfInBounds_toArray, List.set_cons_zero, List.set_cons_succ, List.getElem_toArray, List.getElem_cons_zero, List.getElem_cons_succ]
                        refine wpAnyH_take (i := 19) (v := ?v106) rfl (by kernel_rfl) (by kernel_rfl) (by kernel_rfl) (fun _ _ _ h => h) (Or.inl ⟨by rfl, ?hy106⟩) hH ?rest106
                        case hy106 => (intro w hSw; (try dsimp only at hSw); go_simp; try with_reducible rfl)
                        try simp only [Act.put, List.setIfInBounds_toArray, List.set_cons_zero, List.set_cons_succ, List.getElem_toArray, List.getElem_cons_zero, List.getElem_cons_succ]
                        refine wpAnyH_take (i := 20) (v := ?v107) rfl (by kernel_rfl) (by kernel_rfl) (by kernel_rfl) (fun _ _ _ h => h) (Or.inl ⟨by rfl, ?hy107⟩) hH ?rest107
                        case hy107 => (intro w hSw; (try dsimp only at hSw); go_simp; try with_reducible rfl)
                        try simp only [Act.put, List.setIfInBounds_toArray, List.set_cons_zero, List.set_cons_succ, List.getElem_toArray, List.getElem_cons_zero, List.getElem_cons_succ]
                        refine wpAnyH_take (i := 21) (v := ?v108) rfl (by kernel_rfl) (by kernel_rfl) (by kernel_rfl) (fun _ _ _ h => h) (Or.inl ⟨by rfl, ?hy108⟩) hH ?rest108
                        case hy108 => (intro w hSw; (try dsimp only at hSw); go_simp; try with_reducible rfl)
                        try simp only [Act.put, List.setIfInBounds_toArray, List.set_cons_zero, List.set_cons_succ, List.getElem_toArray, List.getElem_cons_zero, List.getElem_cons_succ]
                        refine wpAnyH_take (i := 22) (v := ?v109) rfl (by kernel_rfl) (by kernel_rfl) (by kernel_rfl) (fun _ _ _ h => h) (Or.inl ⟨by rfl, ?hy109⟩) hH ?rest109
                        case hy109 => (intro w hSw; (try dsimp only at hSw); go_simp; try with_reducible rfl)
                        try simp only [Act.put, List.setIfInBounds_toArray, List.set_cons_zero, List.set_cons_succ, List.getElem_toArray, List.getElem_cons_zero, List.getElem_cons_succ]
                        refine wpAnyH_take (i := 23) (v := ?v110) rfl (by kernel_rfl) (by kernel_rfl) (by kernel_rfl) (fun _ _ _ h => h) (Or.inl ⟨by rfl, ?hy110⟩) hH ?rest110
                        case hy110 => (intro w hSw; (try dsimp only at hSw); go_simp; try with_reducible rfl)
                        try simp only [Act.put, List.setIfInBounds_toArray, List.set_cons_zero, List.set_cons_succ, List.getElem_toArray, List.getElem_cons_zero, List.getElem_cons_succ]
                        refine wpAnyH_take (i := 24) (v := ?v111) rfl (by kernel_rfl) (by kernel_rfl) (by kernel_rfl) (fun _ _ _ h => h) (Or.inl ⟨by rfl, ?hy111⟩) hH ?rest111
                        case hy111 => (intro w hSw; (try dsimp only at hSw); go_simp; try with_reducible rfl)
                        try simp only [Act.put, List.setIfInBounds_toArray, List.set_cons_zero, List.set_cons_succ, List.getElem_toArray, List.getElem_cons_zero, List.getElem_cons_succ]
                        refine wpAnyH_take (i := 25) (v := ?v112) rfl (by kernel_rfl) (by kernel_rfl) (by kernel_rfl) (fun _ _ _ h => h) (Or.inl ⟨by rfl, ?hy112⟩) hH ?rest112
                        case hy112 => (intro w hSw; (try dsimp only at hSw); go_simp; try with_reducible rfl)
                        try simp only [Act.put, List.setIfInBounds_toArray, List.set_cons_zero, List.set_cons_succ, List.getElem_toArray, List.getElem_cons_zero, List.getElem_cons_succ]
                        refine wpAnyH_take (i := 26) (v := ?v113) rfl (by kernel_rfl) (by kernel_rfl) (by kernel_rfl) (fun _ _ _ h => h) (Or.inl ⟨by rfl, ?hy113⟩) hH ?rest113
                        case hy113 => (intro w hSw; (try dsimp only at hSw); go_simp; try with_reducible rfl)
                        try simp only [Act.put, List.setIfInBounds_toArray, List.set_cons_zero, List.set_cons_succ, List.getElem_toArray, List.getElem_cons_zero, List.getElem_cons_succ]
                        refine wpAnyH_take (i := 27) (v := ?v114) rfl (by kernel_rfl) (by kernel_rfl) (by kernel_rfl) (fun _ _ _ h => h) (Or.inl ⟨by rfl, ?hy114⟩) hH ?rest114
                        case hy114 => (intro w hSw; (try dsimp only at hSw); obtain ⟨f0, f1, f2, f3⟩ := SB.out w hSw; go_simp; try with_reducible rfl)
                        try simp only [Act.put, List.setIfInBounds_toArray, List.set_cons_zero, List.set_cons_succ, List.getElem_toArray, List.getElem_cons_zero, List.getElem_cons_succ]
                        refine wpAnyH_ready (rs := [28]) (by kernel_rfl) (by simp) ?_
                        refine AllReadyH.cons rfl (fun K hK => ?_) AllReadyH.nil
                        go_simp
                        go_at_call 18
                        with_reducible refine (HQ _ hH).out.mono ?_
                        rintro e wq115 ⟨zn115, rfl, bq115⟩
                        have hzn115 : decide ((zn115 : Int) < 0) = false := decide_eq_false (by omega)
                        go_wp2_with fail
                        refine hK.out _ _ (hH.trans (bq115.mono hH.size)) (fun hH2 => ?_)
                        clear hK K hH
                        have hH := hH2
                        clear hH2
                        try simp only [Act.put, List.setIfInBounds_toArray, List.set_cons_zero, List.set_cons_succ, List.getElem_toArray, List.getElem_cons_zero, List.getElem_cons_succ]
                        refine wpAnyH_take (i := 29) (v := ?v116) rfl (by kernel_rfl) (by kernel_rfl) (by kernel_rfl) (fun _ _ _ h => h) (Or.inl ⟨by rfl, ?hy116⟩) hH ?rest116
                        case hy116 => (intro w hSw; (try dsimp only at hSw); go_simp; try with_reducible rfl)
                        try simp only [Act.put, List.setIfInBounds_toArray, List.set_cons_zero, List.set_cons_succ, List.getElem_toArray, List.getElem_cons_zero, List.getElem_cons_succ]
                        refine wpAnyH_take (i := 30) (v := ?v117) rfl (by kernel_rfl) (by kernel_rfl) (by kernel_rfl) (fun _ _ _ h => h) (Or.inl ⟨by rfl, ?hy117⟩) hH ?rest117
                        case hy117 => (intro w hSw; (try dsimp only at hSw); go_simp; try with_reducible rfl)
                        try simp only [Act.put, List.setIfInBounds_toArray, List.set_cons_zero, List.set_cons_succ, List.getElem_toArray, List.getElem_cons_zero, List.getElem_cons_succ]
                        refine wpAnyH_done (by kernel_rfl) ?_ _
                        clear HP HQ
                        have HB8 := Lib.hid (hB.out.trans (hH.mono hB.out.size))
                        clear HW SB BD hB hH
                        go_wp2
                        go_roundg (l.length - (j + 1))
                        case measure => omega
                        case rel => exact ⟨j + 1, by omega, by go_num, HB8.out⟩
                  · obtain rfl : j = l.length := by omega
                    go_wp2
                    go_roundg (l.length - (k + 1))
                    case measure => omega
                    case rel => exact ⟨k + 1, by omega, by go_num, hB.out⟩
        · obtain rfl : k = l.length := by omega
          have HBX := Lib.hid (HB4.out.trans (hB.out.mono HB4.out.size))
          go_wp2
          go_ret
          exact ⟨rfl, HBX.out⟩
theorem lwaits_any (A : Option Addr) (c : Nat) (l : List No) (hc : l.length ≤ c) (Ad : Option Addr) (cd : Nat) (D : List Is) (hf : Wf l) (hW : Wd D) (w : World) (hs : Nl w w.heap.size A l) (hd : Dl w w.heap.size l) (hi : Il w w.heap.size Ad D) :
    Calls Tryz.prog 4 #[.slice A l.length c, .slice Ad D.length cd] w (UpPost w) := by
  by_cases hfw : fw l = true
  · have h1 := fw_iff.1 hfw
    by_cases hD : D.length ≤ 100
    · exact lwaits_core A c l h1.1 h1.2 hc Ad cd D hD hf hW w hs hd hi
    · have d2 : decide ((100 : Int) < (D.length : Int)) = true := decide_eq_true (by omega)
      have HAw := Lib.hid (awake_any w)
      have HFw := fun W h => Lib.hid (Few_any A c l W h)
      rw [hfw] at HFw
      clear hfw h1 hf hW hd hi
      go_enter Tryz.func4, Tryz.ntmps4
      go_wp2_with fail
      refine HAw.out.mono ?_
      rintro e w1 ⟨rfl, B1⟩
      have HFw1 := HFw w1 (hs.to B1 B1.size)
      go_wp2_with fail
      refine HFw1.out.mono ?_
      rintro e w2 ⟨rfl, rfl⟩
      go_wp2
      go_ret
      exact ⟨rfl, B1⟩
  · have hfw' : fw l = false := by simpa using hfw
    have HAw := Lib.hid (awake_any w)
    have HFw := fun W h => Lib.hid (Few_any A c l W h)
    rw [hfw'] at HFw
    clear hfw hfw' hf hW hd hi
    go_enter Tryz.func4, Tryz.ntmps4
    go_wp2_with fail
    refine HAw.out.mono ?_
    rintro e w1 ⟨rfl, B1⟩
    have HFw1 := HFw w1 (hs.to B1 B1.size)
    go_wp2_with fail
    refine HFw1.out.mono ?_
    rintro e w2 ⟨rfl, rfl⟩
    go_wp2
    go_ret
    exact ⟨rfl, B1⟩
end Go.Proofs.YtgpciipemgljcaaGreat.Od

/-
  The walk of the document's Count. Conditions: at most 100 nodes, 1000 deps, 1000 that were done.
-/
namespace Go.Proofs.YtgpciipemgljcaaGreat.Od
open Go.RowKit
set_option linter.unusedVariables false
attribute [local go_sem ↓ high] eq25 guard25 neq25 guard25n

theorem fs_all {l : List No} {m : Nat} {x : Is} {n : No} (hl : l.length ≤ 100) (h : fs (l.take m) x = some n) : fs l x = some n := by
  unfold fs at *
  rw [List.take_of_length_le (by simp; omega)] at h
  rw [List.take_of_length_le hl]
  have e : l = l.take m ++ l.drop m := (List.take_append_drop m l).symm
  rw [e, List.find?_append, h]
  rfl
def cj (l : List No) (D : List Is) (k j : Nat) : List No := (axk k ++ axr k j).filterMap (ct l D)
theorem cj_row (l : List No) (D : List Is) (k : Nat) : cj l D (k + 1) 0 = cj l D k 60 := by unfold cj; rw [axk_succ, axr_zero, List.append_nil]
theorem cj_zero (l : List No) (D : List Is) : cj l D 0 0 = [] := rfl
theorem cj_all (l : List No) (D : List Is) : cj l D 7 0 = cs l D := by
  unfold cj cs ax
  rw [axr_zero, List.append_nil]
theorem cj_no {l : List No} {D : List Is} {k j : Nat} (h : ct l D ((k : Int) + 1, (j : Int) + 1) = none) : cj l D k (j + 1) = cj l D k j := by
  unfold cj
  rw [axr_succ, ← List.append_assoc, List.filterMap_append]
  simp [h]
theorem cj_yes {l : List No} {D : List Is} {k j : Nat} {n : No} (h : ct l D ((k : Int) + 1, (j : Int) + 1) = some n) : cj l D k (j + 1) = cj l D k j ++ [n] := by
  unfold cj
  rw [axr_succ, ← List.append_assoc, List.filterMap_append]
  simp [h]
theorem cj_len (l : List No) (D : List Is) (k j : Nat) : (cj l D k j).length ≤ k * 60 + j := by
  unfold cj
  refine Nat.le_trans (List.length_filterMap_le _ _) ?_
  rw [List.length_append]
  have h1 : ∀ k, (axk k).length = k * 60 := fun k => by
    induction k with
    | zero => rfl
    | succ k ih => rw [axk_succ, List.length_append, ih]; simp [axr]; omega
  rw [h1]
  simp [axr]

set_option maxRecDepth 100000 in
set_option maxHeartbeats 4000000 in
theorem Count_any (A : Option Addr) (c : Nat) (l : List No) (hl : l.length ≤ 100) (h7 : ∀ n ∈ l, n.d.length ≤ 1000) (Ad : Option Addr) (cd : Nat) (D : List Is) (hD : D.length ≤ 1000) (w : World) (hs : Nl w w.heap.size A l) (hd : Dl w w.heap.size l) (hi : Il w w.heap.size Ad D) :
    Calls Tryz.prog 21 #[.slice A l.length c, .slice Ad D.length cd] w (NlPost w (cs l D)) := by
  obtain ⟨i0, hi0, hz0, hz1, hz2⟩ := info_parts info30
  have HS := Lib.hid hs
  have HDl := Lib.hid hd
  have HDn := Lib.hid hi
  have H7 := Lib.hid h7
  have HCL : Hid (cj l D 7 0 = cs l D) := cj_all l D
  generalize cs l D = res at *
  clear hs hd hi h7
  go_enter Tryz.func21, Tryz.ntmps21
  go_wp2
  go_loopg [5, 6] 7 (fun q v t W => ∃ k : Nat, k + q = 7 ∧ t = .int .i64 ((k : Int) + 1) ∧ Hid (W.ownsRow w.heap.size 30 4 v (cj l D k 0).length (ncs (cj l D k 0))) ∧ Hid (Below w.heap.size w W))
  case atStart => exact ⟨0, by omega, rfl, World.ownsRow_nil _ _ _ _, Below.refl _ _⟩
  case round =>
    obtain ⟨k, hk, rfl, hrow, hB⟩ := hrel
    by_cases hlt : k < 7
    · have dk : decide (((k : Int) + 1) ≤ 7) = true := decide_eq_true (by omega)
      have hwk : IntKind.i64.wrap ((k : Int) + 1 + 1) = (k : Int) + 1 + 1 := IntWalk.i64_in _ (by omega)
      go_wp2
      go_loopg [5, 7] 60 (fun q v t W => ∃ j : Nat, j + q = 60 ∧ t = .int .i64 ((j : Int) + 1) ∧ Hid (W.ownsRow w.heap.size 30 4 v (cj l D k j).length (ncs (cj l D k j))) ∧ Hid (Below w.heap.size w W))
      case atStart => exact ⟨0, by omega, rfl, hrow.out, hB.out⟩
      case round =>
        clear hrow hB
        obtain ⟨j, hj, rfl, hrow, hB⟩ := hrel
        by_cases hjt : j < 60
        · have dj : decide (((j : Int) + 1) ≤ 60) = true := decide_eq_true (by omega)
          have hwj : IntKind.i64.wrap ((j : Int) + 1 + 1) = (j : Int) + 1 + 1 := IntWalk.i64_in _ (by omega)
          have hml2 := cj_len l D k j
          go_wp2
          go_loopg [5, 8] l.length (fun q v t W => ∃ i : Nat, i + q = l.length ∧ t = .int .i64 (i : Int) ∧ Hid (W.ownsRow w.heap.size 30 4 v (cj l D k j).length (ncs (cj l D k j))) ∧ Hid (fs (l.take i) ((k : Int) + 1, (j : Int) + 1) = none) ∧ Hid (Below w.heap.size w W))
          case atStart => exact ⟨0, by omega, rfl, hrow.out, by show fs _ _ = none; simp [fs], hB.out⟩
          case round =>
            clear hrow hB
            obtain ⟨i, hiq, rfl, hrow, hno, hB⟩ := hrel
            by_cases hit : i < l.length
            · have hii : (i : Int) < (l.length : Int) := by omega
              have hi00 : (0 : Int) ≤ (i : Int) := by omega
              have hi100 : (i : Int) < 100 := by omega
              have HN := Lib.hid (List.getElem?_eq_getElem hit)
              have HM := List.getElem_mem hit
              have HFS := Lib.hid (fs_step HN.out (by omega : i < 100) ((k : Int) + 1, (j : Int) + 1))
              have HNr := Lib.hid (rnear_any l[i] (H7.out _ HM) wr ((HDl.out _ HM).to hB.out hB.out.size))
              obtain ⟨gd, hgd⟩ : ∃ gd : Bool, gd = decide ((l[i]).i ∈ D) := ⟨_, rfl⟩
              have HG1 : Hid (gd = true → (l[i]).i ∈ D) := fun e => by rw [e] at hgd; exact of_decide_eq_true hgd.symm
              have HG2 : Hid (gd = false → (l[i]).i ∉ D) := fun e => by rw [e] at hgd; exact of_decide_eq_false hgd.symm
              have HHs : ∀ V, Below w.heap.size w V → Hid (Calls Tryz.prog 19 #[.slice Ad D.length cd, iv (l[i]).i] V (BoolPost V gd)) := fun V hV => has_any Ad cd D _ gd hgd hD V (HDn.out.to hV hV.size)
              clear hgd
              obtain ⟨b, off, rfl, hb, p0, p1, p2, p3⟩ := (HS.out.below hB.out (Nat.le_refl _)).at_ HN.out
              generalize l[i] = n at *
              obtain ⟨nb, ns, nq, nd, nh, nc⟩ := n
              simp only [nv, No.i, iv] at *
              by_cases he : (nb, ns) = ((k : Int) + 1, (j : Int) + 1)
              · have hq := same_yes he
                have HE := Lib.hid he
                generalize nr ⟨nb, ns, nq, nd, nh, nc⟩ = rn at *
                clear he
                go_wp2_with fail
                refine HNr.out.mono ?_
                rintro e w3 ⟨rfl, b3⟩
                have HB3 := Lib.hid (hB.out.trans (b3.mono hB.out.size))
                have HR3 := Lib.hid (ownk hrow.out b3)
                have HH3 := HHs w3 HB3.out
                obtain ⟨b', off', e', hb', p0, p1, p2, p3⟩ := (HS.out.below HB3.out (Nat.le_refl _)).at_ HN.out
                cases e'
                clear hrow hB HNr b3 HHs
                go_wp2_with fail
                refine HH3.out.mono ?_
                rintro e w4 ⟨rfl, b4⟩
                have HB4 := Lib.hid (HB3.out.trans (b4.mono HB3.out.size))
                have HR4 := Lib.hid (ownk HR3.out b4)
                obtain ⟨b', off', e', hb', p0, p1, p2, p3⟩ := (HS.out.below HB4.out (Nat.le_refl _)).at_ HN.out
                cases e'
                clear HR3 HB3 HH3 b4
                rcases rn with _ | _
                · have HF2 : Hid (fs (l.take (i + 1)) ((k : Int) + 1, (j : Int) + 1) = none) := HFS.out.trans (by rw [hno.out]; simp)
                  go_wp2
                  go_roundg (l.length - (i + 1))
                  case measure => omega
                  case rel => exact ⟨i + 1, by omega, by go_num, HR4.out, HF2.out, HB4.out⟩
                · have HF2 : Hid (fs l ((k : Int) + 1, (j : Int) + 1) = some ⟨nb, ns, nq, nd, nh, nc⟩) := fs_all hl (HFS.out.trans (by rw [hno.out]; simp [HE.out]))
                  rcases gd with _ | _
                  rotate_left
                  · have hmd := HG1.out rfl
                    have HC : Hid (cj l D k (j + 1) = cj l D k j) := cj_no (by
                      unfold ct
                      rw [if_pos (by rw [← HE.out]; exact hmd)])
                    clear hmd
                    go_wp2
                    go_roundg (60 - (j + 1))
                    case measure => omega
                    case rel => exact ⟨j + 1, by omega, by go_num, by rw [HC.out]; exact HR4.out, HB4.out⟩
                  · have hmd := HG2.out rfl
                    have HC : Hid (cj l D k (j + 1) = cj l D k j ++ [⟨nb, ns, nq, nd, nh, nc⟩]) := cj_yes (by
                      unfold ct
                      rw [if_neg (by rw [← HE.out]; exact hmd)]
                      exact HF2.out)
                    have H10 := Lib.hid (HR4.out.alloc (no ⟨nb, ns, nq, nd, nh, nc⟩))
                    have HB7 := Lib.hid (HB4.out.alloc HB4.out.size (no ⟨nb, ns, nq, nd, nh, nc⟩))
                    have hsz := HB4.out.size
                    have hml3 : (cj l D k j).length ≤ 1000 := by omega
                    simp only [no] at H10 HB7
                    clear hmd HR4 HB4
                    go_wp2_with (at_builtin; refine wpList_append_own_at _ rfl _ _ 22 rfl w.heap.size 30 i0 (.agg #[.int .i64 0, .int .i64 0, .int .i64 0, .slice none 0 0]) 4 48 Tryz.underlying22 hi0 hz0 hz1 hz2 rfl (by decide) _ (cj l D k j).length (ncs (cj l D k j)) rfl H10.out ⟨w4.heap.size, 0, none⟩ 1 1 [.int .i64 nb, .int .i64 ns, .int .i64 nq, .slice nh nd.length nc] rfl rfl (cell_four_new _ _ _ _ _ _) (by simp [Value.oneCell']) (by unfold maxLen; omega) (by omega) (by simp; omega) ?_; intro v' w9 hown9 hgrow9 _ hat9)
                    have HB9 := Lib.hid (HB7.out.grown hgrow9 HB7.out.size (fun r hr => (H10.out.lt r hr).1))
                    have H11 : Hid (w9.ownsRow w.heap.size 30 4 v' (cj l D k (j + 1)).length (ncs (cj l D k (j + 1)))) := by
                      show World.ownsRow _ _ _ _ _ _ _
                      rw [HC.out, List.length_append, ncs_append]
                      exact hown9
                    clear hown9 hgrow9 H10 HB7
                    go_wp2
                    go_roundg (60 - (j + 1))
                    case measure => omega
                    case rel => exact ⟨j + 1, by omega, by go_num, H11.out, HB9.out⟩
              · have hq := same_no he
                have HF2 : Hid (fs (l.take (i + 1)) ((k : Int) + 1, (j : Int) + 1) = none) := HFS.out.trans (by rw [hno.out]; simp [he])
                clear he HNr HHs
                go_wp2
                go_roundg (l.length - (i + 1))
                case measure => omega
                case rel => exact ⟨i + 1, by omega, by go_num, hrow.out, HF2.out, hB.out⟩
            · obtain rfl : i = l.length := by omega
              have HC : Hid (cj l D k (j + 1) = cj l D k j) := cj_no (by
                have := hno.out
                rw [List.take_length] at this
                unfold ct
                split
                · rfl
                · exact this)
              go_wp2
              go_roundg (60 - (j + 1))
              case measure => omega
              case rel => exact ⟨j + 1, by omega, by go_num, by rw [HC.out]; exact hrow.out, hB.out⟩
        · obtain rfl : j = 60 := by omega
          have HR5 : Hid (wr.ownsRow w.heap.size 30 4 u5 (cj l D (k + 1) 0).length (ncs (cj l D (k + 1) 0))) := by
            show World.ownsRow _ _ _ _ _ _ _
            rw [cj_row]
            exact hrow.out
          go_wp2
          go_roundg (7 - (k + 1))
          case measure => omega
          case rel => exact ⟨k + 1, by omega, by go_num, HR5.out, hB.out⟩
    · obtain rfl : k = 7 := by omega
      have HX : Hid (wr.ownsRow w.heap.size 30 4 u5 res.length (ncs res)) := by
        show World.ownsRow _ _ _ _ _ _ _
        rw [← HCL.out]
        exact hrow.out
      go_wp2
      go_ret
      exact ⟨_, rfl, HX.out, hB.out⟩
end Go.Proofs.YtgpciipemgljcaaGreat.Od

/-
  Inserting a node into nodes that are sorted, plain; the heads and tails of slices of nodes. No program's function is walked here. No conditions.
-/
namespace Go.Proofs.YtgpciipemgljcaaGreat.Od
open Go.RowKit
set_option linter.unusedVariables false

theorem ls_trans {x y z : No} (h : ls x y = true) (k : ls y z = true) : ls x z = true := by
  rw [ls_iff] at *
  unfold il at *
  omega
/-- Nodes as Less has them, and all of some. -/
structure Sd (o p : List No) : Prop where
  s : o.Pairwise fun x y => ls y x = false
  p : o.Perm p
theorem Sd.nil : Sd [] [] := ⟨List.Pairwise.nil, List.Perm.refl _⟩
theorem Sd.ins {o p : List No} {x : No} {k : Nat} (h : Sd o p) (hk : k ≤ o.length) (hb : ∀ j y, j < k → o[j]? = some y → ls x y = false) (ha : k = o.length ∨ ∃ y, o[k]? = some y ∧ ls x y = true) : Sd (o.take k ++ [x] ++ o.drop k) (p ++ [x]) := by
  have hs : (o.take k ++ o.drop k).Pairwise fun x y => ls y x = false := by rw [List.take_append_drop]; exact h.s
  rw [List.pairwise_append] at hs
  refine ⟨?_, ?_⟩
  · rw [List.append_assoc, List.pairwise_append]
    refine ⟨hs.1, ?_, fun a hA b hB => ?_⟩
    · rw [List.singleton_append, List.pairwise_cons]
      refine ⟨fun b hB => ?_, hs.2.1⟩
      rcases ha with rfl | ⟨y, hy, hl⟩
      · rw [List.drop_length] at hB; cases hB
      · obtain ⟨hk', rfl⟩ := List.getElem?_eq_some_iff.1 hy
        rw [List.drop_eq_getElem_cons hk'] at hB hs
        rcases List.mem_cons.1 hB with rfl | hB
        · exact ls_asym hl
        · have h1 := (List.pairwise_cons.1 hs.2.1).1 b hB
          rcases hbx : ls b x with _ | _
          · rfl
          · rw [ls_trans hbx hl] at h1; cases h1
    · rw [List.singleton_append] at hB
      rcases List.mem_cons.1 hB with rfl | hB
      · obtain ⟨j, hj⟩ := List.getElem?_of_mem hA
        have hjk : j < k := by
          have := (List.getElem?_eq_some_iff.1 hj).1
          simp at this; omega
        rw [List.getElem?_take_of_lt hjk] at hj
        exact hb j a hjk hj
      · exact hs.2.2 a hA b hB
  · have h1 : (o.take k ++ [x] ++ o.drop k).Perm (o.take k ++ o.drop k ++ [x]) := by
      rw [List.append_assoc, List.append_assoc]
      exact List.Perm.append_left _ (List.perm_append_comm)
    rw [List.take_append_drop] at h1
    exact h1.trans (List.Perm.append_right _ h.p)

/-- 's[:k]' and 's[k:]' of nodes. -/
theorem Nl.take {w : World} {B : Nat} {A : Option Addr} {l : List No} (h : Nl w B A l) (n : Nat) : Nl w B A (l.take n) := by
  rcases h with rfl | ⟨b, off, hA, hb, hc⟩
  · exact .inl (by simp)
  · refine .inr ⟨b, off, hA, hb, fun j x hx => hc j x ?_⟩
    rcases Nat.lt_or_ge j n with h | h
    · rwa [List.getElem?_take_of_lt h] at hx
    · rw [List.getElem?_take_eq_none h] at hx; cases hx
theorem Nl.drop {w : World} {B b off : Nat} {l : List No} (h : Nl w B (some ⟨b, off, none⟩) l) (n : Nat) : Nl w B (some ⟨b, off + n * 4, none⟩) (l.drop n) := by
  rcases h with rfl | ⟨b', off', hA, hb, hc⟩
  · exact .inl (by simp)
  · simp only [Option.some.injEq, Addr.mk.injEq, and_true] at hA
    obtain ⟨rfl, rfl⟩ := hA
    refine .inr ⟨b, _, rfl, hb, fun j x hx => ?_⟩
    rw [List.getElem?_drop] at hx
    have := hc _ _ hx
    rw [show off + n * 4 + j * 4 = off + (n + j) * 4 by omega]
    exact this
theorem head_runN {w : World} {B : Nat} {A : Option Addr} {l : List No} (h : Nl w B A l) (c k : Nat) (hk : k ≤ l.length) (hc : l.length ≤ c) :
    ∃ A', (∀ W, (Instr.sliceAt 22 (.slice A l.length c) none (some (.int .i64 (k : Int))) none).run Tryz.prog W = .ok (.slice A' (l.take k).length c) W) ∧
      (∀ W, (Instr.slice 22 (.slice A l.length c) none (some (.int .i64 (k : Int))) none).run Tryz.prog W = .ok (.slice A' (l.take k).length c) W) ∧ Nl w B A' (l.take k) := by
  have eu : Tryz.prog.underlying 22 = some (.slice (Tryz.prog.elem 22)) := by kernel_rfl
  have h2 : ∀ W, (Instr.slice 22 (.slice A l.length c) none (some (.int .i64 (k : Int))) none).run Tryz.prog W = .ok (.slice (if c = 0 then A else A.map (·.add (0 * 4))) (l.take k).length c) W := fun W => by
    rw [run_slice_h W 22 A l.length c eu .i64 k (by omega) (by omega), elem_size22]
    simp [sliced]
    omega
  refine ⟨if c = 0 then A else A.map (·.add (0 * 4)), fun W => by rw [run_sliceAt_slice W 22 _ _ _ _ eu]; exact h2 W, h2, ?_⟩
  rcases h with rfl | ⟨b, off, rfl, hb, hcc⟩
  · simp; exact .nil
  · have h3 : Nl w B (some ⟨b, off, none⟩) l := .inr ⟨b, off, rfl, hb, hcc⟩
    have e : (if c = 0 then (some ⟨b, off, none⟩ : Option Addr) else (some ⟨b, off, none⟩ : Option Addr).map (·.add (0 * 4))) = some ⟨b, off, none⟩ := by
      split <;> simp [Addr.add]
    rw [e]
    exact h3.take k
theorem tail_runN {w : World} {B : Nat} {A : Option Addr} {l : List No} (h : Nl w B A l) (c k : Nat) (hk : k ≤ l.length) (hc : l.length ≤ c) :
    ∃ A', (∀ W, (Instr.sliceAt 22 (.slice A l.length c) (some (.int .i64 (k : Int))) none none).run Tryz.prog W = .ok (.slice A' (l.drop k).length (c - k)) W) ∧
      (∀ W, (Instr.slice 22 (.slice A l.length c) (some (.int .i64 (k : Int))) none none).run Tryz.prog W = .ok (.slice A' (l.drop k).length (c - k)) W) ∧ Nl w B A' (l.drop k) := by
  have eu : Tryz.prog.underlying 22 = some (.slice (Tryz.prog.elem 22)) := by kernel_rfl
  have h2 : ∀ W, (Instr.slice 22 (.slice A l.length c) (some (.int .i64 (k : Int))) none none).run Tryz.prog W = .ok (.slice (if c = k then A else A.map (·.add (k * 4))) (l.drop k).length (c - k)) W := fun W => by
    rw [run_slice_l W 22 A l.length c eu .i64 k (by omega) (by omega), elem_size22]
    simp [sliced]
  refine ⟨if c = k then A else A.map (·.add (k * 4)), fun W => by rw [run_sliceAt_slice W 22 _ _ _ _ eu]; exact h2 W, h2, ?_⟩
  by_cases e : c = k
  · have : l.drop k = [] := List.drop_eq_nil_of_le (by omega)
    rw [this]; exact .nil
  · rw [if_neg e]
    rcases h with rfl | ⟨b, off, rfl, hb, hcc⟩
    · simp; exact .nil
    · have h3 : Nl w B (some ⟨b, off, none⟩) l := .inr ⟨b, off, rfl, hb, hcc⟩
      simp only [Option.map_some, Addr.add_lit]
      exact h3.drop k
end Go.Proofs.YtgpciipemgljcaaGreat.Od

/-
  The walk of the law OrderMissing. No conditions but what can be read.
-/
namespace Go.Proofs.YtgpciipemgljcaaGreat.Od
open Go.RowKit
set_option linter.unusedVariables false

/-- One node, counted. -/
theorem csn_one (n : No) (D : List Is) : cs [n] D = if nr n = true ∧ n.i ∉ D then [n] else [] := by
  have hd : ∀ x ∈ [n], ∀ y ∈ [n], x.i = y.i → x = y := fun x hx y hy _ => by
    rw [List.mem_singleton.1 hx, List.mem_singleton.1 hy]
  have hm : ∀ x, x ∈ cs [n] D ↔ x ∈ [n] ∧ nr x = true ∧ x.i ∉ D := fun x => mem_cs_di hd (by simp)
  refine same_of_rises (R := fun x y => il x.i y.i) (fun x y h k => il_asym h k) (cs_rises _ _) ?_ fun x => ?_
  · split <;> simp
  · rw [hm]
    split
    · rename_i h
      constructor
      · intro k; exact k.1
      · intro k
        have e := List.mem_singleton.1 k
        subst e
        exact ⟨k, h⟩
    · rename_i h
      constructor
      · intro k
        have e := List.mem_singleton.1 k.1
        subst e
        exact absurd k.2 h
      · intro k; cases k
theorem csn_one_len {n : No} {D : List Is} (h : (((cs [n] D).length : Int) == 1) = true) : nr n = true ∧ n.i ∉ D := by
  rw [csn_one] at h
  split at h
  · assumption
  · simp at h
/-- 's[i:i+1]' of nodes. -/
theorem one_runN {w : World} {B : Nat} {A : Option Addr} {l : List No} (h : Nl w B A l) (c i ii : Nat) (hii : ii = i + 1) (x : No) (hi : l[i]? = some x) (hc : l.length ≤ c) :
    ∃ A' c', (∀ W, (Instr.sliceAt 22 (.slice A l.length c) (some (.int .i64 (i : Int))) (some (.int .i64 (ii : Int))) none).run Tryz.prog W = .ok (.slice A' [x].length c') W) ∧
      (∀ W, (Instr.slice 22 (.slice A l.length c) (some (.int .i64 (i : Int))) (some (.int .i64 (ii : Int))) none).run Tryz.prog W = .ok (.slice A' [x].length c') W) ∧ Nl w B A' [x] := by
  have hil := (List.getElem?_eq_some_iff.1 hi).1
  have eu : Tryz.prog.underlying 22 = some (.slice (Tryz.prog.elem 22)) := by kernel_rfl
  have h2 : ∀ W, (Instr.slice 22 (.slice A l.length c) (some (.int .i64 (i : Int))) (some (.int .i64 (ii : Int))) none).run Tryz.prog W = .ok (.slice (if c = i then A else A.map (·.add (i * 4))) [x].length (c - i)) W := fun W => by
    rw [run_slice_lh W 22 A l.length c eu .i64 .i64 i ii (by omega) (by omega) (by omega), elem_size22]
    simp [sliced]
    omega
  refine ⟨if c = i then A else A.map (·.add (i * 4)), c - i, fun W => by rw [run_sliceAt_slice W 22 _ _ _ _ eu]; exact h2 W, h2, ?_⟩
  rw [if_neg (by omega)]
  obtain ⟨b, off, rfl, hb, hr⟩ := h.at_ hi
  refine .inr ⟨b, off + i * 4, by simp [Addr.add_lit], hb, fun j y hj => ?_⟩
  rcases j with _ | j
  · simp at hj
    subst hj
    simpa using hr
  · simp at hj

set_option maxRecDepth 100000 in
set_option maxHeartbeats 4000000 in
theorem lmissing_core (A : Option Addr) (c : Nat) (l : List No) (hl : l.length ≤ 30) (h7 : F7 l) (hc : l.length ≤ c) (Ad : Option Addr) (cd : Nat) (D : List Is) (hD : D.length ≤ 100) (hf : Wf l) (hW : Wd D) (w : World) (hs : Nl w w.heap.size A l) (hd : Dl w w.heap.size l) (hi : Il w w.heap.size Ad D) :
    Calls Tryz.prog 6 #[.slice A l.length c, .slice Ad D.length cd] w (UpPost w) := by
  have HAw := Lib.hid (awake_any w)
  have HFw := fun W h => Lib.hid (Few_any A c l W h)
  have hfw : fw l = true := fw_iff.2 ⟨hl, h7⟩
  rw [hfw] at HFw
  have d2 : decide ((100 : Int) < (D.length : Int)) = false := decide_eq_false (by omega)
  have HRl : ∀ W, Below w.heap.size w W → Hid (Calls Tryz.prog 12 #[.slice A l.length c, .slice Ad D.length cd] W (RdPost W (rd (cs l D) D))) := fun W hB =>
    Ready_any A c l (by omega) hc Ad cd D (by omega) hf hW h7 (Nat.le_trans (cs_len l D) hl) W (hs.to hB hB.size) (hd.to hB hB.size) (hi.to hB hB.size)
  have HMl : ∀ W, Below w.heap.size w W → Hid (Calls Tryz.prog 14 #[.slice A l.length c, .slice Ad D.length cd] W (IsPost W (ms (cs l D) D))) := fun W hB =>
    Missing_any A c l (by omega) hc Ad cd D (by omega) hf hW h7 (Nat.le_trans (cs_len l D) (by omega)) W (hs.to hB hB.size) (hd.to hB hB.size) (hi.to hB hB.size)
  have HC : ∀ W (i : Nat) (A' : Option Addr) (c' : Nat) (h : i < l.length), Below w.heap.size w W → Nl W W.heap.size A' [l[i]] → Hid (Calls Tryz.prog 21 #[.slice A' [l[i]].length c', .slice Ad D.length cd] W (NlPost W (cs [l[i]] D))) := fun W i A' c' h hB hN =>
    Count_any A' c' [l[i]] (by simp) (fun n hn => by rw [List.mem_singleton.1 hn]; have := h7 _ (List.getElem_mem h); omega) Ad cd D (by omega) W hN ((hd.sub fun n hn => by rw [List.mem_singleton.1 hn]; exact List.getElem_mem h).to hB hB.size) (hi.to hB hB.size)
  have HS := Lib.hid hs
  have HDl0 := Lib.hid hd
  have HDn0 := Lib.hid hi
  have HRi := Lib.hid (rd_ri l D)
  have HcL := Lib.hid hc
  clear hs hd hi hf hW h7 hfw
  go_enter Tryz.func6, Tryz.ntmps6
  go_wp2_with fail
  refine HAw.out.mono ?_
  rintro e w1 ⟨rfl, B1⟩
  have HFw1 := HFw w1 (HS.out.to B1 B1.size)
  go_wp2_with fail
  refine HFw1.out.mono ?_
  rintro e w2 ⟨rfl, rfl⟩
  have HMl1 := HMl w2 B1
  clear HAw HFw HFw1 HMl
  go_wp2_with fail
  refine HMl1.out.mono ?_
  rintro e w3 ⟨v3, rfl, ho3, b3⟩
  obtain ⟨A3, c3, rfl, hI3, -⟩ := own_il ho3
  have B3 := B1.trans (b3.mono B1.size)
  have HI3 := Lib.hid hI3
  have HRl3 := HRl w3 B3
  clear HMl1 HRl ho3 hI3 b3
  go_wp2_with fail
  refine HRl3.out.mono ?_
  rintro e w4 ⟨v4, o, rfl, hr4, ho4, b4⟩
  obtain ⟨A4, c4, rfl, hI4, -⟩ := own_il ho4
  have HOrs := Lib.hid (hr4.ors HRi.out)
  have hol : o.length ≤ 1000 := by
    have := hr4.len (Nat.le_trans (rdk_len _ _ _) (Nat.le_trans (cs_len l D) hl))
    omega
  have hml := ms_len (cs l D) D
  have HB4 := Lib.hid (B3.trans (b4.mono B3.size))
  have HO := Lib.hid hI4
  have HM := Lib.hid (HI3.out.to b4 b4.size)
  have HNl := Lib.hid (HS.out.to HB4.out HB4.out.size)
  have HDl := Lib.hid (HDl0.out.to HB4.out HB4.out.size)
  have HDn := Lib.hid (HDn0.out.to HB4.out HB4.out.size)
  have HLaw := Lib.hid (fun (m : Is) (hm : m ∈ ms (cs l D) D) => missing_law HOrs.out hm)
  have HRis := Lib.hid (ms_rises (cs l D) D)
  have HNone := Lib.hid (fun (h0 : ms (cs l D) D = []) (n : No) (hn : n ∈ l) (hr : nr n = true) (hD : n.i ∉ D) => none_law (show l.length ≤ 100 by omega) HOrs.out h0 hn hr hD)
  have HMb := Lib.hid (fun m (hm : m ∈ ms (cs l D) D) => mem_ax.1 (mem_ms.1 hm).1)
  generalize ms (cs l D) D = mm at *
  clear HRl3 hr4 ho4 hI4 b4 B3 B1 HI3 HS HDl0 HDn0 HOrs HRi
  go_wp2
  go_loopg [9] mm.length (fun q t W => ∃ k : Nat, k + q = mm.length ∧ t = .int .i64 (k : Int) ∧ Hid (Below w4.heap.size w4 W))
  case atStart => exact ⟨0, by omega, rfl, Below.refl _ _⟩
  case round =>
    obtain ⟨k, hk, rfl, hB⟩ := hrel
    by_cases hlt : k < mm.length
    · have hki : (k : Int) < (mm.length : Int) := by omega
      have hk0 : (0 : Int) ≤ (k : Int) := by omega
      have HX := Lib.hid (List.getElem?_eq_getElem hlt)
      have HMx := Lib.hid (List.getElem_mem hlt)
      have HL1 := Lib.hid (HLaw.out _ HMx.out)
      have HP1 : ∀ V, Below wr.heap.size wr V → Hid (Calls Tryz.prog 18 #[.slice Ad D.length cd, iv mm[k]] V (fun e w' => e = .returned (.int .i64 (-1)) ∧ Below V.heap.size V w')) := fun V hV => place_out Ad cd D _ HL1.out.1 (by omega) V ((HDn.out.to hB.out hB.out.size).to hV hV.size)
      have HP2 : ∀ V, Below wr.heap.size wr V → Hid (Calls Tryz.prog 18 #[.slice A4 o.length c4, iv mm[k]] V (fun e w' => e = .returned (.int .i64 (-1)) ∧ Below V.heap.size V w')) := fun V hV => place_out A4 c4 o _ HL1.out.2.1 (by omega) V ((HO.out.to hB.out hB.out.size).to hV hV.size)
      have HEx := Lib.hid HL1.out.2.2
      have HMb1 := Lib.hid (HMb.out _ HMx.out)
      obtain ⟨b3', off3, rfl, hb3, m0, m1⟩ := (HM.out.to hB.out hB.out.size).at_ HX.out
      have HIl : Hid (∀ (i : Nat) (p : Is), i + 1 = k → mm[i]? = some p → il p mm[k]) := fun i p h hp => by
        obtain ⟨hi', rfl⟩ := List.getElem?_eq_some_iff.1 hp
        exact List.pairwise_iff_getElem.1 HRis.out i k hi' hlt (by omega)
      generalize mm[k] = x at *
      obtain ⟨xb, xs⟩ := x
      simp only [iv] at *
      have hBs := hB.out.size
      rcases Nat.eq_zero_or_pos k with hkz | hkp
      · have hz1 : decide ((0 : Int) < (k : Int)) = false := decide_eq_false (by omega)
        have hz2 : decide (0 < k) = false := decide_eq_false (by omega)
        have SB : Hid (∀ v, Below wr.heap.size wr v → v.cell? ⟨b3', off3 + k * 2, none⟩ = some (.int .i64 xb) ∧ v.cell? ⟨b3', off3 + k * 2 + 1, none⟩ = some (.int .i64 xs)) := Lib.hid (fun v g => ⟨(World.cell?_of_block (g.block _ hb3)).trans m0, (World.cell?_of_block (g.block _ hb3)).trans m1⟩)
        have BD : Hid (Below wr.heap.size wr wr.drew) := (Below.refl _ _).drew
        clear m0 m1 hkz
        go_wp2_with fail
        refine wp_region_held_drew (S := fun v => Below wr.heap.size wr v) (by kernel_rfl) BD.out (fun hH => ?_)
        refine wpAnyH_take (i := 0) (v := ?v1) rfl (by kernel_rfl) (by kernel_rfl) (by kernel_rfl) (fun _ _ _ h => h) (Or.inl ⟨by rfl, ?hy1⟩) hH ?rest1
        case hy1 => (intro w hSw; (try dsimp only at hSw); go_simp; try with_reducible rfl)
        try simp only [Act.put, List.setIfInBounds_toArray, List.set_cons_zero, List.set_cons_succ, List.getElem_toArray, List.getElem_cons_zero]
        refine wpAnyH_take (i := 1) (v := ?v2) rfl (by kernel_rfl) (by kernel_rfl) (by kernel_rfl) (fun _ _ _ h => h) (Or.inl ⟨by rfl, ?hy2⟩) hH ?rest2
        case hy2 => (intro w hSw; (try dsimp only at hSw); go_simp; try with_reducible rfl)
        try simp only [Act.put, List.setIfInBounds_toArray, List.set_cons_zero, List.set_cons_succ, List.getElem_toArray, List.getElem_cons_zero, List.getElem_cons_succ]
        refine wpAnyH_take (i := 2) (v := ?v3) rfl (by kernel_rfl) (by kernel_rfl) (by kernel_rfl) (fun _ _ _ h => h) (Or.inl ⟨by rfl, ?hy3⟩) hH ?rest3
        case hy3 => (intro w hSw; (try dsimp only at hSw); go_simp; try with_reducible rfl)
        try simp only [Act.put, List.setIfInBounds_toArray, List.set_cons_zero, List.set_cons_succ, List.getElem_toArray, List.getElem_cons_zero, List.getElem_cons_succ]
        refine wpAnyH_take (i := 3) (v := ?v4) rfl (by kernel_rfl) (by kernel_rfl) (by kernel_rfl) (fun _ _ _ h => h) (Or.inl ⟨by rfl, ?hy4⟩) hH ?rest4
        case hy4 => (intro w hSw; (try dsimp only at hSw); go_simp; try with_reducible rfl)
        try simp only [Act.put, List.setIfInBounds_toArray, List.set_cons_zero, List.set_cons_succ, List.getElem_toArray, List.getElem_cons_zero, List.getElem_cons_succ]
        refine wpAnyH_take (i := 4) (v := ?v5) rfl (by kernel_rfl) (by kernel_rfl) (by kernel_rfl) (fun _ _ _ h => h) (Or.inl ⟨by rfl, ?hy5⟩) hH ?rest5
        case hy5 => (intro w hSw; (try dsimp only at hSw); obtain ⟨f0, f1⟩ := SB.out w hSw; go_simp; try with_reducible rfl)
        try simp only [Act.put, List.setIfInBounds_toArray, List.set_cons_zero, List.set_cons_succ, List.getElem_toArray, List.getElem_cons_zero, List.getElem_cons_succ]
        refine wpAnyH_ready (rs := [5]) (by kernel_rfl) (by simp) ?_
        refine AllReadyH.cons rfl (fun K hK => ?_) AllReadyH.nil
        go_simp
        go_at_call 18
        with_reducible refine (HP1 _ hH).out.mono ?_
        rintro e wq6 ⟨rfl, bq6⟩
        go_wp2_with fail
        refine hK.out _ _ (hH.trans (bq6.mono hH.size)) (fun hH2 => ?_)
        clear hK K hH
        have hH := hH2
        clear hH2
        try simp only [Act.put, List.setIfInBounds_toArray, List.set_cons_zero, List.set_cons_succ, List.getElem_toArray, List.getElem_cons_zero, List.getElem_cons_succ]
        refine wpAnyH_take (i := 6) (v := ?v7) rfl (by kernel_rfl) (by kernel_rfl) (by kernel_rfl) (fun _ _ _ h => h) (Or.inl ⟨by rfl, ?hy7⟩) hH ?rest7
        case hy7 => (intro w hSw; (try dsimp only at hSw); go_simp; try with_reducible rfl)
        try simp only [Act.put, List.setIfInBounds_toArray, List.set_cons_zero, List.set_cons_succ, List.getElem_toArray, List.getElem_cons_zero, List.getElem_cons_succ]
        refine wpAnyH_take (i := 7) (v := ?v8) rfl (by kernel_rfl) (by kernel_rfl) (by kernel_rfl) (fun _ _ _ h => h) (Or.inl ⟨by rfl, ?hy8⟩) hH ?rest8
        case hy8 => (intro w hSw; (try dsimp only at hSw); go_simp; try with_reducible rfl)
        try simp only [Act.put, List.setIfInBounds_toArray, List.set_cons_zero, List.set_cons_succ, List.getElem_toArray, List.getElem_cons_zero, List.getElem_cons_succ]
        refine wpAnyH_take (i := 8) (v := ?v9) rfl (by kernel_rfl) (by kernel_rfl) (by kernel_rfl) (fun _ _ _ h => h) (Or.inl ⟨by rfl, ?hy9⟩) hH ?rest9
        case hy9 => (intro w hSw; (try dsimp only at hSw); go_simp; try with_reducible rfl)
        try simp only [Act.put, List.setIfInBounds_toArray, List.set_cons_zero, List.set_cons_succ, List.getElem_toArray, List.getElem_cons_zero, List.getElem_cons_succ]
        refine wpAnyH_take (i := 9) (v := ?v10) rfl (by kernel_rfl) (by kernel_rfl) (by kernel_rfl) (fun _ _ _ h => h) (Or.inl ⟨by rfl, ?hy10⟩) hH ?rest10
        case hy10 => (intro w hSw; (try dsimp only at hSw); go_simp; try with_reducible rfl)
        try simp only [Act.put, List.setIfInBounds_toArray, List.set_cons_zero, List.set_cons_succ, List.getElem_toArray, List.getElem_cons_zero, List.getElem_cons_succ]
        refine wpAnyH_take (i := 10) (v := ?v11) rfl (by kernel_rfl) (by kernel_rfl) (by kernel_rfl) (fun _ _ _ h => h) (Or.inl ⟨by rfl, ?hy11⟩) hH ?rest11
        case hy11 => (intro w hSw; (try dsimp only at hSw); go_simp; try with_reducible rfl)
        try simp only [Act.put, List.setIfInBounds_toArray, List.set_cons_zero, List.set_cons_succ, List.getElem_toArray, List.getElem_cons_zero, List.getElem_cons_succ]
        refine wpAnyH_take (i := 11) (v := ?v12) rfl (by kernel_rfl) (by kernel_rfl) (by kernel_rfl) (fun _ _ _ h => h) (Or.inl ⟨by rfl, ?hy12⟩) hH ?rest12
        case hy12 => (intro w hSw; (try dsimp only at hSw); go_simp; try with_reducible rfl)
        try simp only [Act.put, List.setIfInBounds_toArray, List.set_cons_zero, List.set_cons_succ, List.getElem_toArray, List.getElem_cons_zero, List.getElem_cons_succ]
        refine wpAnyH_take (i := 12) (v := ?v13) rfl (by kernel_rfl) (by kernel_rfl) (by kernel_rfl) (fun _ _ _ h => h) (Or.inl ⟨by rfl, ?hy13⟩) hH ?rest13
        case hy13 => (intro w hSw; (try dsimp only at hSw); obtain ⟨f0, f1⟩ := SB.out w hSw; go_simp; try with_reducible rfl)
        try simp only [Act.put, List.setIfInBounds_toArray, List.set_cons_zero, List.set_cons_succ, List.getElem_toArray, List.getElem_cons_zero, List.getElem_cons_succ]
        refine wpAnyH_ready (rs := [13]) (by kernel_rfl) (by simp) ?_
        refine AllReadyH.cons rfl (fun K hK => ?_) AllReadyH.nil
        go_simp
        go_at_call 18
        with_reducible refine (HP2 _ hH).out.mono ?_
        rintro e wq14 ⟨rfl, bq14⟩
        go_wp2_with fail
        refine hK.out _ _ (hH.trans (bq14.mono hH.size)) (fun hH2 => ?_)
        clear hK K hH
        have hH := hH2
        clear hH2
        try simp only [Act.put, List.setIfInBounds_toArray, List.set_cons_zero, List.set_cons_succ, List.getElem_toArray, List.getElem_cons_zero, List.getElem_cons_succ]
        refine wpAnyH_take (i := 14) (v := ?v15) rfl (by kernel_rfl) (by kernel_rfl) (by kernel_rfl) (fun _ _ _ h => h) (Or.inl ⟨by rfl, ?hy15⟩) hH ?rest15
        case hy15 => (intro w hSw; (try dsimp only at hSw); go_simp; try with_reducible rfl)
        try simp only [Act.put, List.setIfInBounds_toArray, List.set_cons_zero, List.set_cons_succ, List.getElem_toArray, List.getElem_cons_zero, List.getElem_cons_succ]
        refine wpAnyH_take (i := 15) (v := ?v16) rfl (by kernel_rfl) (by kernel_rfl) (by kernel_rfl) (fun _ _ _ h => h) (Or.inl ⟨by rfl, ?hy16⟩) hH ?rest16
        case hy16 => (intro w hSw; (try dsimp only at hSw); go_simp; try with_reducible rfl)
        try simp only [Act.put, List.setIfInBounds_toArray, List.set_cons_zero, List.set_cons_succ, List.getElem_toArray, List.getElem_cons_zero, List.getElem_cons_succ]
        refine wpAnyH_take (i := 16) (v := ?v17) rfl (by kernel_rfl) (by kernel_rfl) (by kernel_rfl) (fun _ _ _ h => h) (Or.inl ⟨by rfl, ?hy17⟩) hH ?rest17
        case hy17 => (intro w hSw; (try dsimp only at hSw); go_simp; try with_reducible rfl)
        try simp only [Act.put, List.setIfInBounds_toArray, List.set_cons_zero, List.set_cons_succ, List.getElem_toArray, List.getElem_cons_zero, List.getElem_cons_succ]
        refine wpAnyH_take (i := 17) (v := ?v18) rfl (by kernel_rfl) (by kernel_rfl) (by kernel_rfl) (fun _ _ _ h => h) (Or.inl ⟨by rfl, ?hy18⟩) hH ?rest18
        case hy18 => (intro w hSw; (try dsimp only at hSw); go_simp; try with_reducible rfl)
        try simp only [Act.put, List.setIfInBounds_toArray, List.set_cons_zero, List.set_cons_succ, List.getElem_toArray, List.getElem_cons_zero, List.getElem_cons_succ]
        refine wpAnyH_take (i := 18) (v := ?v19) rfl (by kernel_rfl) (by kernel_rfl) (by kernel_rfl) (fun _ _ _ h => h) (Or.inl ⟨by rfl, ?hy19⟩) hH ?rest19
        case hy19 => (intro w hSw; (try dsimp only at hSw); go_simp; try with_reducible rfl)
        try simp only [Act.put, List.setIfInBounds_toArray, List.set_cons_zero, List.set_cons_succ, List.getElem_toArray, List.getElem_cons_zero, List.getElem_cons_succ]
        refine wpAnyH_take (i := 19) (v := ?v20) rfl (by kernel_rfl) (by kernel_rfl) (by kernel_rfl) (fun _ _ _ h => h) (Or.inl ⟨by rfl, ?hy20⟩) hH ?rest20
        case hy20 => (intro w hSw; (try dsimp only at hSw); go_simp; try with_reducible rfl)
        try simp only [Act.put, List.setIfInBounds_toArray, List.set_cons_zero, List.set_cons_succ, List.getElem_toArray, List.getElem_cons_zero, List.getElem_cons_succ]
        refine wpAnyH_take (i := 20) (v := undef) rfl (by kernel_rfl) (by kernel_rfl) (by kernel_rfl) (fun _ _ _ h => h) (Or.inr ⟨by rfl, rfl⟩) hH ?rest21
        try simp only [Act.put, List.setIfInBounds_toArray, List.set_cons_zero, List.set_cons_succ, List.getElem_toArray, List.getElem_cons_zero, List.getElem_cons_succ]
        refine wpAnyH_take (i := 21) (v := undef) rfl (by kernel_rfl) (by kernel_rfl) (by kernel_rfl) (fun _ _ _ h => h) (Or.inr ⟨by rfl, rfl⟩) hH ?rest22
        try simp only [Act.put, List.setIfInBounds_toArray, List.set_cons_zero, List.set_cons_succ, List.getElem_toArray, List.getElem_cons_zero, List.getElem_cons_succ]
        refine wpAnyH_take (i := 25) (v := undef) rfl (by kernel_rfl) (by kernel_rfl) (by kernel_rfl) (fun _ _ _ h => h) (Or.inr ⟨by rfl, rfl⟩) hH ?rest23
        try simp only [Act.put, List.setIfInBounds_toArray, List.set_cons_zero, List.set_cons_succ, List.getElem_toArray, List.getElem_cons_zero, List.getElem_cons_succ]
        refine wpAnyH_take (i := 26) (v := undef) rfl (by kernel_rfl) (by kernel_rfl) (by kernel_rfl) (fun _ _ _ h => h) (Or.inr ⟨by rfl, rfl⟩) hH ?rest24
        try simp only [Act.put, List.setIfInBounds_toArray, List.set_cons_zero, List.set_cons_succ, List.getElem_toArray, List.getElem_cons_zero, List.getElem_cons_succ]
        refine wpAnyH_take (i := 22) (v := undef) rfl (by kernel_rfl) (by kernel_rfl) (by kernel_rfl) (fun _ _ _ h => h) (Or.inr ⟨by rfl, rfl⟩) hH ?rest25
        try simp only [Act.put, List.setIfInBounds_toArray, List.set_cons_zero, List.set_cons_succ, List.getElem_toArray, List.getElem_cons_zero, List.getElem_cons_succ]
        refine wpAnyH_take (i := 27) (v := undef) rfl (by kernel_rfl) (by kernel_rfl) (by kernel_rfl) (fun _ _ _ h => h) (Or.inr ⟨by rfl, rfl⟩) hH ?rest26
        try simp only [Act.put, List.setIfInBounds_toArray, List.set_cons_zero, List.set_cons_succ, List.getElem_toArray, List.getElem_cons_zero, List.getElem_cons_succ]
        refine wpAnyH_take (i := 23) (v := undef) rfl (by kernel_rfl) (by kernel_rfl) (by kernel_rfl) (fun _ _ _ h => h) (Or.inr ⟨by rfl, rfl⟩) hH ?rest27
        try simp only [Act.put, List.setIfInBounds_toArray, List.set_cons_zero, List.set_cons_succ, List.getElem_toArray, List.getElem_cons_zero, List.getElem_cons_succ]
        refine wpAnyH_take (i := 28) (v := undef) rfl (by kernel_rfl) (by kernel_rfl) (by kernel_rfl) (fun _ _ _ h => h) (Or.inr ⟨by rfl, rfl⟩) hH ?rest28
        try simp only [Act.put, List.setIfInBounds_toArray, List.set_cons_zero, List.set_cons_succ, List.getElem_toArray, List.getElem_cons_zero, List.getElem_cons_succ]
        refine wpAnyH_take (i := 24) (v := undef) rfl (by kernel_rfl) (by kernel_rfl) (by kernel_rfl) (fun _ _ _ h => h) (Or.inr ⟨by rfl, rfl⟩) hH ?rest29
        try simp only [Act.put, List.setIfInBounds_toArray, List.set_cons_zero, List.set_cons_succ, List.getElem_toArray, List.getElem_cons_zero, List.getElem_cons_succ]
        refine wpAnyH_take (i := 29) (v := undef) rfl (by kernel_rfl) (by kernel_rfl) (by kernel_rfl) (fun _ _ _ h => h) (Or.inr ⟨by rfl, rfl⟩) hH ?rest30
        try simp only [Act.put, List.setIfInBounds_toArray, List.set_cons_zero, List.set_cons_succ, List.getElem_toArray, List.getElem_cons_zero, List.getElem_cons_succ]
        refine wpAnyH_take (i := 30) (v := undef) rfl (by kernel_rfl) (by kernel_rfl) (by kernel_rfl) (fun _ _ _ h => h) (Or.inr ⟨by rfl, rfl⟩) hH ?rest31
        try simp only [Act.put, List.setIfInBounds_toArray, List.set_cons_zero, List.set_cons_succ, List.getElem_toArray, List.getElem_cons_zero, List.getElem_cons_succ]
        refine wpAnyH_take (i := 31) (v := undef) rfl (by kernel_rfl) (by kernel_rfl) (by kernel_rfl) (fun _ _ _ h => h) (Or.inr ⟨by rfl, rfl⟩) hH ?rest32
        try simp only [Act.put, List.setIfInBounds_toArray, List.set_cons_zero, List.set_cons_succ, List.getElem_toArray, List.getElem_cons_zero, List.getElem_cons_succ]
        refine wpAnyH_take (i := 32) (v := undef) rfl (by kernel_rfl) (by kernel_rfl) (by kernel_rfl) (fun _ _ _ h => h) (Or.inr ⟨by rfl, rfl⟩) hH ?rest33
        try simp only [Act.put, List.setIfInBounds_toArray, List.set_cons_zero, List.set_cons_succ, List.getElem_toArray, List.getElem_cons_zero, List.getElem_cons_succ]
        refine wpAnyH_take (i := 33) (v := undef) rfl (by kernel_rfl) (by kernel_rfl) (by kernel_rfl) (fun _ _ _ h => h) (Or.inr ⟨by rfl, rfl⟩) hH ?rest34
        try simp only [Act.put, List.setIfInBounds_toArray, List.set_cons_zero, List.set_cons_succ, List.getElem_toArray, List.getElem_cons_zero, List.getElem_cons_succ]
        refine wpAnyH_take (i := 34) (v := undef) rfl (by kernel_rfl) (by kernel_rfl) (by kernel_rfl) (fun _ _ _ h => h) (Or.inr ⟨by rfl, rfl⟩) hH ?rest35
        try simp only [Act.put, List.setIfInBounds_toArray, List.set_cons_zero, List.set_cons_succ, List.getElem_toArray, List.getElem_cons_zero, List.getElem_cons_succ]
        refine wpAnyH_take (i := 38) (v := undef) rfl (by kernel_rfl) (by kernel_rfl) (by kernel_rfl) (fun _ _ _ h => h) (Or.inr ⟨by rfl, rfl⟩) hH ?rest36
        try simp only [Act.put, List.setIfInBounds_toArray, List.set_cons_zero, List.set_cons_succ, List.getElem_toArray, List.getElem_cons_zero, List.getElem_cons_succ]
        refine wpAnyH_take (i := 39) (v := undef) rfl (by kernel_rfl) (by kernel_rfl) (by kernel_rfl) (fun _ _ _ h => h) (Or.inr ⟨by rfl, rfl⟩) hH ?rest37
        try simp only [Act.put, List.setIfInBounds_toArray, List.set_cons_zero, List.set_cons_succ, List.getElem_toArray, List.getElem_cons_zero, List.getElem_cons_succ]
        refine wpAnyH_take (i := 35) (v := undef) rfl (by kernel_rfl) (by kernel_rfl) (by kernel_rfl) (fun _ _ _ h => h) (Or.inr ⟨by rfl, rfl⟩) hH ?rest38
        try simp only [Act.put, List.setIfInBounds_toArray, List.set_cons_zero, List.set_cons_succ, List.getElem_toArray, List.getElem_cons_zero, List.getElem_cons_succ]
        refine wpAnyH_take (i := 40) (v := undef) rfl (by kernel_rfl) (by kernel_rfl) (by kernel_rfl) (fun _ _ _ h => h) (Or.inr ⟨by rfl, rfl⟩) hH ?rest39
        try simp only [Act.put, List.setIfInBounds_toArray, List.set_cons_zero, List.set_cons_succ, List.getElem_toArray, List.getElem_cons_zero, List.getElem_cons_succ]
        refine wpAnyH_take (i := 36) (v := undef) rfl (by kernel_rfl) (by kernel_rfl) (by kernel_rfl) (fun _ _ _ h => h) (Or.inr ⟨by rfl, rfl⟩) hH ?rest40
        try simp only [Act.put, List.setIfInBounds_toArray, List.set_cons_zero, List.set_cons_succ, List.getElem_toArray, List.getElem_cons_zero, List.getElem_cons_succ]
        refine wpAnyH_take (i := 41) (v := undef) rfl (by kernel_rfl) (by kernel_rfl) (by kernel_rfl) (fun _ _ _ h => h) (Or.inr ⟨by rfl, rfl⟩) hH ?rest41
        try simp only [Act.put, List.setIfInBounds_toArray, List.set_cons_zero, List.set_cons_succ, List.getElem_toArray, List.getElem_cons_zero, List.getElem_cons_succ]
        refine wpAnyH_take (i := 37) (v := undef) rfl (by kernel_rfl) (by kernel_rfl) (by kernel_rfl) (fun _ _ _ h => h) (Or.inr ⟨by rfl, rfl⟩) hH ?rest42
        try simp only [Act.put, List.setIfInBounds_toArray, List.set_cons_zero, List.set_cons_succ, List.getElem_toArray, List.getElem_cons_zero, List.getElem_cons_succ]
        refine wpAnyH_take (i := 42) (v := undef) rfl (by kernel_rfl) (by kernel_rfl) (by kernel_rfl) (fun _ _ _ h => h) (Or.inr ⟨by rfl, rfl⟩) hH ?rest43
        try simp only [Act.put, List.setIfInBounds_toArray, List.set_cons_zero, List.set_cons_succ, List.getElem_toArray, List.getElem_cons_zero, List.getElem_cons_succ]
        refine wpAnyH_take (i := 43) (v := undef) rfl (by kernel_rfl) (by kernel_rfl) (by kernel_rfl) (fun _ _ _ h => h) (Or.inr ⟨by rfl, rfl⟩) hH ?rest44
        try simp only [Act.put, List.setIfInBounds_toArray, List.set_cons_zero, List.set_cons_succ, List.getElem_toArray, List.getElem_cons_zero, List.getElem_cons_succ]
        refine wpAnyH_take (i := 44) (v := undef) rfl (by kernel_rfl) (by kernel_rfl) (by kernel_rfl) (fun _ _ _ h => h) (Or.inr ⟨by rfl, rfl⟩) hH ?rest45
        try simp only [Act.put, List.setIfInBounds_toArray, List.set_cons_zero, List.set_cons_succ, List.getElem_toArray, List.getElem_cons_zero, List.getElem_cons_succ]
        refine wpAnyH_take (i := 45) (v := undef) rfl (by kernel_rfl) (by kernel_rfl) (by kernel_rfl) (fun _ _ _ h => h) (Or.inr ⟨by rfl, rfl⟩) hH ?rest46
        try simp only [Act.put, List.setIfInBounds_toArray, List.set_cons_zero, List.set_cons_succ, List.getElem_toArray, List.getElem_cons_zero, List.getElem_cons_succ]
        refine wpAnyH_take (i := 46) (v := undef) rfl (by kernel_rfl) (by kernel_rfl) (by kernel_rfl) (fun _ _ _ h => h) (Or.inr ⟨by rfl, rfl⟩) hH ?rest47
        try simp only [Act.put, List.setIfInBounds_toArray, List.set_cons_zero, List.set_cons_succ, List.getElem_toArray, List.getElem_cons_zero, List.getElem_cons_succ]
        refine wpAnyH_take (i := 47) (v := undef) rfl (by kernel_rfl) (by kernel_rfl) (by kernel_rfl) (fun _ _ _ h => h) (Or.inr ⟨by rfl, rfl⟩) hH ?rest48
        try simp only [Act.put, List.setIfInBounds_toArray, List.set_cons_zero, List.set_cons_succ, List.getElem_toArray, List.getElem_cons_zero, List.getElem_cons_succ]
        refine wpAnyH_take (i := 51) (v := undef) rfl (by kernel_rfl) (by kernel_rfl) (by kernel_rfl) (fun _ _ _ h => h) (Or.inr ⟨by rfl, rfl⟩) hH ?rest49
        try simp only [Act.put, List.setIfInBounds_toArray, List.set_cons_zero, List.set_cons_succ, List.getElem_toArray, List.getElem_cons_zero, List.getElem_cons_succ]
        refine wpAnyH_take (i := 52) (v := undef) rfl (by kernel_rfl) (by kernel_rfl) (by kernel_rfl) (fun _ _ _ h => h) (Or.inr ⟨by rfl, rfl⟩) hH ?rest50
        try simp only [Act.put, List.setIfInBounds_toArray, List.set_cons_zero, List.set_cons_succ, List.getElem_toArray, List.getElem_cons_zero, List.getElem_cons_succ]
        refine wpAnyH_take (i := 48) (v := undef) rfl (by kernel_rfl) (by kernel_rfl) (by kernel_rfl) (fun _ _ _ h => h) (Or.inr ⟨by rfl, rfl⟩) hH ?rest51
        try simp only [Act.put, List.setIfInBounds_toArray, List.set_cons_zero, List.set_cons_succ, List.getElem_toArray, List.getElem_cons_zero, List.getElem_cons_succ]
        refine wpAnyH_take (i := 53) (v := undef) rfl (by kernel_rfl) (by kernel_rfl) (by kernel_rfl) (fun _ _ _ h => h) (Or.inr ⟨by rfl, rfl⟩) hH ?rest52
        try simp only [Act.put, List.setIfInBounds_toArray, List.set_cons_zero, List.set_cons_succ, List.getElem_toArray, List.getElem_cons_zero, List.getElem_cons_succ]
        refine wpAnyH_take (i := 49) (v := undef) rfl (by kernel_rfl) (by kernel_rfl) (by kernel_rfl) (fun _ _ _ h => h) (Or.inr ⟨by rfl, rfl⟩) hH ?rest53
        try simp only [Act.put, List.setIfInBounds_toArray, List.set_cons_zero, List.set_cons_succ, List.getElem_toArray, List.getElem_cons_zero, List.getElem_cons_succ]
        refine wpAnyH_take (i := 54) (v := undef) rfl (by kernel_rfl) (by kernel_rfl) (by kernel_rfl) (fun _ _ _ h => h) (Or.inr ⟨by rfl, rfl⟩) hH ?rest54
        try simp only [Act.put, List.setIfInBounds_toArray, List.set_cons_zero, List.set_cons_succ, List.getElem_toArray, List.getElem_cons_zero, List.getElem_cons_succ]
        refine wpAnyH_take (i := 50) (v := undef) rfl (by kernel_rfl) (by kernel_rfl) (by kernel_rfl) (fun _ _ _ h => h) (Or.inr ⟨by rfl, rfl⟩) hH ?rest55
        try simp only [Act.put, List.setIfInBounds_toArray, List.set_cons_zero, List.set_cons_succ, List.getElem_toArray, List.getElem_cons_zero, List.getElem_cons_succ]
        refine wpAnyH_take (i := 55) (v := undef) rfl (by kernel_rfl) (by kernel_rfl) (by kernel_rfl) (fun _ _ _ h => h) (Or.inr ⟨by rfl, rfl⟩) hH ?rest56
        try simp only [Act.put, List.setIfInBounds_toArray, List.set_cons_zero, List.set_cons_succ, List.getElem_toArray, List.getElem_cons_zero, List.getElem_cons_succ]
        refine wpAnyH_take (i := 56) (v := undef) rfl (by kernel_rfl) (by kernel_rfl) (by kernel_rfl) (fun _ _ _ h => h) (Or.inr ⟨by rfl, rfl⟩) hH ?rest57
        try simp only [Act.put, List.setIfInBounds_toArray, List.set_cons_zero, List.set_cons_succ, List.getElem_toArray, List.getElem_cons_zero, List.getElem_cons_succ]
        refine wpAnyH_take (i := 57) (v := undef) rfl (by kernel_rfl) (by kernel_rfl) (by kernel_rfl) (fun _ _ _ h => h) (Or.inr ⟨by rfl, rfl⟩) hH ?rest58
        try simp only [Act.put, List.setIfInBounds_toArray, List.set_cons_zero, List.set_cons_succ, List.getElem_toArray, List.getElem_cons_zero, List.getElem_cons_succ]
        refine wpAnyH_take (i := 58) (v := undef) rfl (by kernel_rfl) (by kernel_rfl) (by kernel_rfl) (fun _ _ _ h => h) (Or.inr ⟨by rfl, rfl⟩) hH ?rest59
        try simp only [Act.put, List.setIfInBounds_toArray, List.set_cons_zero, List.set_cons_succ, List.getElem_toArray, List.getElem_cons_zero, List.getElem_cons_succ]
        refine wpAnyH_take (i := 59) (v := undef) rfl (by kernel_rfl) (by kernel_rfl) (by kernel_rfl) (fun _ _ _ h => h) (Or.inr ⟨by rfl, rfl⟩) hH ?rest60
        try simp only [Act.put, List.setIfInBounds_toArray, List.set_cons_zero, List.set_cons_succ, List.getElem_toArray, List.getElem_cons_zero, List.getElem_cons_succ]
        refine wpAnyH_take (i := 60) (v := ?v61) rfl (by kernel_rfl) (by kernel_rfl) (by kernel_rfl) (fun _ _ _ h => h) (Or.inl ⟨by rfl, ?hy61⟩) hH ?rest61
        case hy61 => (intro w hSw; (try dsimp only at hSw); go_simp; try with_reducible rfl)
        try simp only [Act.put, List.setIfInBounds_toArray, List.set_cons_zero, List.set_cons_succ, List.getElem_toArray, List.getElem_cons_zero, List.getElem_cons_succ]
        refine wpAnyH_take (i := 61) (v := ?v62) rfl (by kernel_rfl) (by kernel_rfl) (by kernel_rfl) (fun _ _ _ h => h) (Or.inl ⟨by rfl, ?hy62⟩) hH ?rest62
        case hy62 => (intro w hSw; (try dsimp only at hSw); go_simp; try with_reducible rfl)
        try simp only [Act.put, List.setIfInBounds_toArray, List.set_cons_zero, List.set_cons_succ, List.getElem_toArray, List.getElem_cons_zero, List.getElem_cons_succ]
        refine wpAnyH_done (by kernel_rfl) ?_ _
        clear hz1 hz2
        have HBr := Lib.hid (hB.out.trans (hH.mono hB.out.size))
        clear HP1 HP2 SB BD hB hH HIl
        go_wp2
        go_loopg [10, 11] l.length (fun q v t W => ∃ j : Nat, ∃ b : Bool, j + q = l.length ∧ v = .bool b ∧ t = .int .i64 (j : Int) ∧ Hid (b = (l.take j).any fun n => wa n (xb, xs)) ∧ Hid (Below w4.heap.size w4 W))
        case atStart => exact ⟨0, false, by omega, rfl, rfl, rfl, HBr.out⟩
        case round =>
          clear HBr
          obtain ⟨j, bo, hj, rfl, rfl, hb, hB⟩ := hrel
          by_cases hjt : j < l.length
          · have hji : (j : Int) < (l.length : Int) := by omega
            have hj0 : (0 : Int) ≤ (j : Int) := by omega
            have HY := Lib.hid (List.getElem?_eq_getElem hjt)
            have hNw := HNl.out.to hB.out hB.out.size
            obtain ⟨b, off, rfl, hbl, q0, q1, q2, q3⟩ := hNw.at_ HY.out
            obtain ⟨b4, off4, e4, hbl4, m0, m1⟩ := (HM.out.to hB.out hB.out.size).at_ HX.out
            cases e4
            have HQ : Hid (((l.take (j + 1)).any fun n => wa n (xb, xs)) = (((l.take j).any fun n => wa n (xb, xs)) || wa l[j] (xb, xs))) := by
              show _ = _
              rw [← List.take_append_getElem hjt, List.any_append]
              simp
            have HW : ∀ V, Below wr.heap.size wr V → Hid (Calls Tryz.prog 20 #[.agg #[.int .i64 l[j].q, .slice l[j].h l[j].d.length l[j].c], .agg #[.int .i64 xb, .int .i64 xs]] V (At.BoolPost V (wa l[j] (xb, xs)))) := fun V hV =>
              At.waits_any l[j].q xb xs l[j].h l[j].c l[j].d V (((HDl.out _ (List.getElem_mem hjt)).to hB.out hB.out.size).to hV hV.size) (by have := HMb1.out; omega)
            generalize wa l[j] (xb, xs) = wv at *
            generalize l[j] = y at *
            obtain ⟨yb, ys, yq, yd, yh, yc⟩ := y
            simp only at *
            have SB : Hid (∀ v, Below wr.heap.size wr v → v.cell? ⟨b, off + j * 4 + 2, none⟩ = some (.int .i64 yq) ∧ v.cell? ⟨b, off + j * 4 + 3, none⟩ = some (.slice yh yd.length yc) ∧ v.cell? ⟨b3', off3 + k * 2, none⟩ = some (.int .i64 xb) ∧ v.cell? ⟨b3', off3 + k * 2 + 1, none⟩ = some (.int .i64 xs)) := Lib.hid (fun v g => ⟨(World.cell?_of_block (g.block _ hbl)).trans q2, (World.cell?_of_block (g.block _ hbl)).trans q3, (World.cell?_of_block (g.block _ hbl4)).trans m0, (World.cell?_of_block (g.block _ hbl4)).trans m1⟩)
            have BD : Hid (Below wr.heap.size wr wr.drew) := (Below.refl _ _).drew
            clear q0 q1 q2 q3 m0 m1 hNw
            rcases bo with _ | _
            · go_wp2_with fail
              refine wp_region_held_drew (S := fun v => Below wr.heap.size wr v) (by kernel_rfl) BD.out (fun hH => ?_)
              refine wpAnyH_take (i := 0) (v := ?v63) rfl (by kernel_rfl) (by kernel_rfl) (by kernel_rfl) (fun _ _ _ h => h) (Or.inl ⟨by rfl, ?hy63⟩) hH ?rest63
              case hy63 => (intro w hSw; (try dsimp only at hSw); go_simp; try with_reducible rfl)
              try simp only [Act.put, List.setIfInBounds_toArray, List.set_cons_zero, List.set_cons_succ, List.getElem_toArray, List.getElem_cons_zero]
              refine wpAnyH_take (i := 1) (v := ?v64) rfl (by kernel_rfl) (by kernel_rfl) (by kernel_rfl) (fun _ _ _ h => h) (Or.inl ⟨by rfl, ?hy64⟩) hH ?rest64
              case hy64 => (intro w hSw; (try dsimp only at hSw); go_simp; try with_reducible rfl)
              try simp only [Act.put, List.setIfInBounds_toArray, List.set_cons_zero, List.set_cons_succ, List.getElem_toArray, List.getElem_cons_zero, List.getElem_cons_succ]
              refine wpAnyH_take (i := 2) (v := ?v65) rfl (by kernel_rfl) (by kernel_rfl) (by kernel_rfl) (fun _ _ _ h => h) (Or.inl ⟨by rfl, ?hy65⟩) hH ?rest65
              case hy65 => (intro w hSw; (try dsimp only at hSw); go_simp; try with_reducible rfl)
              try simp only [Act.put, List.setIfInBounds_toArray, List.set_cons_zero, List.set_cons_succ, List.getElem_toArray, List.getElem_cons_zero, List.getElem_cons_succ]
              refine wpAnyH_take (i := 3) (v := ?v66) rfl (by kernel_rfl) (by kernel_rfl) (by kernel_rfl) (fun _ _ _ h => h) (Or.inl ⟨by rfl, ?hy66⟩) hH ?rest66
              case hy66 => (intro w hSw; (try dsimp only at hSw); go_simp; try with_reducible rfl)
              try simp only [Act.put, List.setIfInBounds_toArray, List.set_cons_zero, List.set_cons_succ, List.getElem_toArray, List.getElem_cons_zero, List.getElem_cons_succ]
              refine wpAnyH_take (i := 7) (v := ?v67) rfl (by kernel_rfl) (by kernel_rfl) (by kernel_rfl) (fun _ _ _ h => h) (Or.inl ⟨by rfl, ?hy67⟩) hH ?rest67
              case hy67 => (intro w hSw; (try dsimp only at hSw); go_simp; try with_reducible rfl)
              try simp only [Act.put, List.setIfInBounds_toArray, List.set_cons_zero, List.set_cons_succ, List.getElem_toArray, List.getElem_cons_zero, List.getElem_cons_succ]
              refine wpAnyH_take (i := 8) (v := ?v68) rfl (by kernel_rfl) (by kernel_rfl) (by kernel_rfl) (fun _ _ _ h => h) (Or.inl ⟨by rfl, ?hy68⟩) hH ?rest68
              case hy68 => (intro w hSw; (try dsimp only at hSw); go_simp; try with_reducible rfl)
              try simp only [Act.put, List.setIfInBounds_toArray, List.set_cons_zero, List.set_cons_succ, List.getElem_toArray, List.getElem_cons_zero, List.getElem_cons_succ]
              refine wpAnyH_take (i := 4) (v := ?v69) rfl (by kernel_rfl) (by kernel_rfl) (by kernel_rfl) (fun _ _ _ h => h) (Or.inl ⟨by rfl, ?hy69⟩) hH ?rest69
              case hy69 => (intro w hSw; (try dsimp only at hSw); go_simp; try with_reducible rfl)
              try simp only [Act.put, List.setIfInBounds_toArray, List.set_cons_zero, List.set_cons_succ, List.getElem_toArray, List.getElem_cons_zero, List.getElem_cons_succ]
              refine wpAnyH_take (i := 9) (v := ?v70) rfl (by kernel_rfl) (by kernel_rfl) (by kernel_rfl) (fun _ _ _ h => h) (Or.inl ⟨by rfl, ?hy70⟩) hH ?rest70
              case hy70 => (intro w hSw; (try dsimp only at hSw); go_simp; try with_reducible rfl)
              try simp only [Act.put, List.setIfInBounds_toArray, List.set_cons_zero, List.set_cons_succ, List.getElem_toArray, List.getElem_cons_zero, List.getElem_cons_succ]
              refine wpAnyH_take (i := 5) (v := ?v71) rfl (by kernel_rfl) (by kernel_rfl) (by kernel_rfl) (fun _ _ _ h => h) (Or.inl ⟨by rfl, ?hy71⟩) hH ?rest71
              case hy71 => (intro w hSw; (try dsimp only at hSw); go_simp; try with_reducible rfl)
              try simp only [Act.put, List.setIfInBounds_toArray, List.set_cons_zero, List.set_cons_succ, List.getElem_toArray, List.getElem_cons_zero, List.getElem_cons_succ]
              refine wpAnyH_take (i := 10) (v := ?v72) rfl (by kernel_rfl) (by kernel_rfl) (by kernel_rfl) (fun _ _ _ h => h) (Or.inl ⟨by rfl, ?hy72⟩) hH ?rest72
              case hy72 => (intro w hSw; (try dsimp only at hSw); obtain ⟨f0, f1, f2, f3⟩ := SB.out w hSw; go_simp; try with_reducible rfl)
              try simp only [Act.put, List.setIfInBounds_toArray, List.set_cons_zero, List.set_cons_succ, List.getElem_toArray, List.getElem_cons_zero, List.getElem_cons_succ]
              refine wpAnyH_take (i := 6) (v := ?v73) rfl (by kernel_rfl) (by kernel_rfl) (by kernel_rfl) (fun _ _ _ h => h) (Or.inl ⟨by rfl, ?hy73⟩) hH ?rest73
              case hy73 => (intro w hSw; (try dsimp only at hSw); obtain ⟨f0, f1, f2, f3⟩ := SB.out w hSw; go_simp; try with_reducible rfl)
              try simp only [Act.put, List.setIfInBounds_toArray, List.set_cons_zero, List.set_cons_succ, List.getElem_toArray, List.getElem_cons_zero, List.getElem_cons_succ]
              refine wpAnyH_ready (rs := [11]) (by kernel_rfl) (by simp) ?_
              refine AllReadyH.cons rfl (fun K hK => ?_) AllReadyH.nil
              go_simp
              go_at_call 20
              with_reducible refine (HW _ hH).out.mono ?_
              rintro e wq74 ⟨rfl, bq74⟩
              go_wp2_with fail
              refine hK.out _ _ (hH.trans (bq74.mono hH.size)) (fun hH2 => ?_)
              clear hK K hH
              have hH := hH2
              clear hH2
              try simp only [Act.put, List.setIfInBounds_toArray, List.set_cons_zero, List.set_cons_succ, List.getElem_toArray, List.getElem_cons_zero, List.getElem_cons_succ]
              refine wpAnyH_take (i := 12) (v := ?v75) rfl (by kernel_rfl) (by kernel_rfl) (by kernel_rfl) (fun _ _ _ h => h) (Or.inl ⟨by rfl, ?hy75⟩) hH ?rest75
              case hy75 => (intro w hSw; (try dsimp only at hSw); go_simp; try with_reducible rfl)
              try simp only [Act.put, List.setIfInBounds_toArray, List.set_cons_zero, List.set_cons_succ, List.getElem_toArray, List.getElem_cons_zero, List.getElem_cons_succ]
              refine wpAnyH_take (i := 13) (v := ?v76) rfl (by kernel_rfl) (by kernel_rfl) (by kernel_rfl) (fun _ _ _ h => h) (Or.inl ⟨by rfl, ?hy76⟩) hH ?rest76
              case hy76 => (intro w hSw; (try dsimp only at hSw); go_simp; try with_reducible rfl)
              try simp only [Act.put, List.setIfInBounds_toArray, List.set_cons_zero, List.set_cons_succ, List.getElem_toArray, List.getElem_cons_zero, List.getElem_cons_succ]
              refine wpAnyH_done (by kernel_rfl) ?_ _
              have HBr := Lib.hid (hB.out.trans (hH.mono hB.out.size))
              have HQ2 : Hid (wv = (l.take (j + 1)).any fun n => wa n (xb, xs)) := by
                show _ = _
                rw [HQ.out, ← hb.out, Bool.false_or]
              clear HW SB BD hB hH HQ hb
              go_wp2
              go_roundg (l.length - (j + 1))
              case measure => omega
              case rel => exact ⟨j + 1, wv, by omega, rfl, by go_num, HQ2.out, HBr.out⟩
            · go_wp2_with fail
              refine wp_region_held_drew (S := fun v => Below wr.heap.size wr v) (by kernel_rfl) BD.out (fun hH => ?_)
              refine wpAnyH_take (i := 0) (v := ?v77) rfl (by kernel_rfl) (by kernel_rfl) (by kernel_rfl) (fun _ _ _ h => h) (Or.inl ⟨by rfl, ?hy77⟩) hH ?rest77
              case hy77 => (intro w hSw; (try dsimp only at hSw); go_simp; try with_reducible rfl)
              try simp only [Act.put, List.setIfInBounds_toArray, List.set_cons_zero, List.set_cons_succ, List.getElem_toArray, List.getElem_cons_zero]
              refine wpAnyH_take (i := 1) (v := ?v78) rfl (by kernel_rfl) (by kernel_rfl) (by kernel_rfl) (fun _ _ _ h => h) (Or.inl ⟨by rfl, ?hy78⟩) hH ?rest78
              case hy78 => (intro w hSw; (try dsimp only at hSw); go_simp; try with_reducible rfl)
              try simp only [Act.put, List.setIfInBounds_toArray, List.set_cons_zero, List.set_cons_succ, List.getElem_toArray, List.getElem_cons_zero, List.getElem_cons_succ]
              refine wpAnyH_take (i := 2) (v := undef) rfl (by kernel_rfl) (by kernel_rfl) (by kernel_rfl) (fun _ _ _ h => h) (Or.inr ⟨by rfl, rfl⟩) hH ?rest79
              try simp only [Act.put, List.setIfInBounds_toArray, List.set_cons_zero, List.set_cons_succ, List.getElem_toArray, List.getElem_cons_zero, List.getElem_cons_succ]
              refine wpAnyH_take (i := 3) (v := undef) rfl (by kernel_rfl) (by kernel_rfl) (by kernel_rfl) (fun _ _ _ h => h) (Or.inr ⟨by rfl, rfl⟩) hH ?rest80
              try simp only [Act.put, List.setIfInBounds_toArray, List.set_cons_zero, List.set_cons_succ, List.getElem_toArray, List.getElem_cons_zero, List.getElem_cons_succ]
              refine wpAnyH_take (i := 7) (v := undef) rfl (by kernel_rfl) (by kernel_rfl) (by kernel_rfl) (fun _ _ _ h => h) (Or.inr ⟨by rfl, rfl⟩) hH ?rest81
              try simp only [Act.put, List.setIfInBounds_toArray, List.set_cons_zero, List.set_cons_succ, List.getElem_toArray, List.getElem_cons_zero, List.getElem_cons_succ]
              refine wpAnyH_take (i := 8) (v := undef) rfl (by kernel_rfl) (by kernel_rfl) (by kernel_rfl) (fun _ _ _ h => h) (Or.inr ⟨by rfl, rfl⟩) hH ?rest82
              try simp only [Act.put, List.setIfInBounds_toArray, List.set_cons_zero, List.set_cons_succ, List.getElem_toArray, List.getElem_cons_zero, List.getElem_cons_succ]
              refine wpAnyH_take (i := 4) (v := undef) rfl (by kernel_rfl) (by kernel_rfl) (by kernel_rfl) (fun _ _ _ h => h) (Or.inr ⟨by rfl, rfl⟩) hH ?rest83
              try simp only [Act.put, List.setIfInBounds_toArray, List.set_cons_zero, List.set_cons_succ, List.getElem_toArray, List.getElem_cons_zero, List.getElem_cons_succ]
              refine wpAnyH_take (i := 9) (v := undef) rfl (by kernel_rfl) (by kernel_rfl) (by kernel_rfl) (fun _ _ _ h => h) (Or.inr ⟨by rfl, rfl⟩) hH ?rest84
              try simp only [Act.put, List.setIfInBounds_toArray, List.set_cons_zero, List.set_cons_succ, List.getElem_toArray, List.getElem_cons_zero, List.getElem_cons_succ]
              refine wpAnyH_take (i := 5) (v := undef) rfl (by kernel_rfl) (by kernel_rfl) (by kernel_rfl) (fun _ _ _ h => h) (Or.inr ⟨by rfl, rfl⟩) hH ?rest85
              try simp only [Act.put, List.setIfInBounds_toArray, List.set_cons_zero, List.set_cons_succ, List.getElem_toArray, List.getElem_cons_zero, List.getElem_cons_succ]
              refine wpAnyH_take (i := 10) (v := undef) rfl (by kernel_rfl) (by kernel_rfl) (by kernel_rfl) (fun _ _ _ h => h) (Or.inr ⟨by rfl, rfl⟩) hH ?rest86
              try simp only [Act.put, List.setIfInBounds_toArray, List.set_cons_zero, List.set_cons_succ, List.getElem_toArray, List.getElem_cons_zero, List.getElem_cons_succ]
              refine wpAnyH_take (i := 6) (v := undef) rfl (by kernel_rfl) (by kernel_rfl) (by kernel_rfl) (fun _ _ _ h => h) (Or.inr ⟨by rfl, rfl⟩) hH ?rest87
              try simp only [Act.put, List.setIfInBounds_toArray, List.set_cons_zero, List.set_cons_succ, List.getElem_toArray, List.getElem_cons_zero, List.getElem_cons_succ]
              refine wpAnyH_take (i := 11) (v := undef) rfl (by kernel_rfl) (by kernel_rfl) (by kernel_rfl) (fun _ _ _ h => h) (Or.inr ⟨by rfl, rfl⟩) hH ?rest88
              try simp only [Act.put, List.setIfInBounds_toArray, List.set_cons_zero, List.set_cons_succ, List.getElem_toArray, List.getElem_cons_zero, List.getElem_cons_succ]
              refine wpAnyH_take (i := 12) (v := ?v89) rfl (by kernel_rfl) (by kernel_rfl) (by kernel_rfl) (fun _ _ _ h => h) (Or.inl ⟨by rfl, ?hy89⟩) hH ?rest89
              case hy89 => (intro w hSw; (try dsimp only at hSw); go_simp; try with_reducible rfl)
              try simp only [Act.put, List.setIfInBounds_toArray, List.set_cons_zero, List.set_cons_succ, List.getElem_toArray, List.getElem_cons_zero, List.getElem_cons_succ]
              refine wpAnyH_take (i := 13) (v := ?v90) rfl (by kernel_rfl) (by kernel_rfl) (by kernel_rfl) (fun _ _ _ h => h) (Or.inl ⟨by rfl, ?hy90⟩) hH ?rest90
              case hy90 => (intro w hSw; (try dsimp only at hSw); go_simp; try with_reducible rfl)
              try simp only [Act.put, List.setIfInBounds_toArray, List.set_cons_zero, List.set_cons_succ, List.getElem_toArray, List.getElem_cons_zero, List.getElem_cons_succ]
              refine wpAnyH_done (by kernel_rfl) ?_ _
              have HBr := Lib.hid (hB.out.trans (hH.mono hB.out.size))
              have HQ2 : Hid (true = (l.take (j + 1)).any fun n => wa n (xb, xs)) := by
                show _ = _
                rw [HQ.out, ← hb.out, Bool.true_or]
              clear HW SB BD hB hH HQ hb
              go_wp2
              go_roundg (l.length - (j + 1))
              case measure => omega
              case rel => exact ⟨j + 1, true, by omega, rfl, by go_num, HQ2.out, HBr.out⟩
          · obtain rfl : j = l.length := by omega
            have hbt : bo = true := by
              rw [hb.out, List.take_length]
              obtain ⟨n, hn, hw⟩ := HEx.out
              exact List.any_eq_true.2 ⟨n, hn, hw⟩
            subst hbt
            clear hb
            go_wp2
            go_roundg (mm.length - (k + 1))
            case measure => omega
            case rel => exact ⟨k + 1, by omega, by go_num, hB.out⟩
      · have hz1 : decide ((0 : Int) < (k : Int)) = true := decide_eq_true (by omega)
        have hz2 : decide (0 < k) = true := decide_eq_true (by omega)
        obtain ⟨i, hik⟩ : ∃ i, i + 1 = k := ⟨k - 1, by omega⟩
        have hil : i < mm.length := by omega
        have hii : (i : Int) < (mm.length : Int) := by omega
        have hi0 : (0 : Int) ≤ (i : Int) := by omega
        have hw : IntKind.i64.wrap ((k : Int) - 1) = (i : Int) := by rw [IntWalk.i64_in _ (by omega)]; omega
        have HP := Lib.hid (List.getElem?_eq_getElem hil)
        have HI := Lib.hid (HIl.out i _ hik HP.out)
        obtain ⟨b4, off4, e4, hb4, n0, n1⟩ := (HM.out.to hB.out hB.out.size).at_ HP.out
        cases e4
        generalize mm[i] = p at *
        obtain ⟨pb, ps⟩ := p
        simp only at *
        have hlt1 : decide (xb < pb) = false := decide_eq_false (by have := HI.out; unfold il at this; simp only at this; omega)
        have SB : Hid (∀ v, Below wr.heap.size wr v → v.cell? ⟨b3', off3 + k * 2, none⟩ = some (.int .i64 xb) ∧ v.cell? ⟨b3', off3 + k * 2 + 1, none⟩ = some (.int .i64 xs) ∧ v.cell? ⟨b3', off3 + i * 2, none⟩ = some (.int .i64 pb) ∧ v.cell? ⟨b3', off3 + i * 2 + 1, none⟩ = some (.int .i64 ps)) := Lib.hid (fun v g => ⟨(World.cell?_of_block (g.block _ hb3)).trans m0, (World.cell?_of_block (g.block _ hb3)).trans m1, (World.cell?_of_block (g.block _ hb3)).trans n0, (World.cell?_of_block (g.block _ hb3)).trans n1⟩)
        have BD : Hid (Below wr.heap.size wr wr.drew) := (Below.refl _ _).drew
        clear m0 m1 n0 n1 hik HP
        by_cases heq : xb = pb
        · have heq1 : (xb == pb) = true := by simpa using heq
          have hle1 : decide (xs ≤ ps) = false := decide_eq_false (by have := HI.out; unfold il at this; simp only at this; omega)
          clear heq HI
          go_wp2_with fail
          refine wp_region_held_drew (S := fun v => Below wr.heap.size wr v) (by kernel_rfl) BD.out (fun hH => ?_)
          refine wpAnyH_take (i := 0) (v := ?v91) rfl (by kernel_rfl) (by kernel_rfl) (by kernel_rfl) (fun _ _ _ h => h) (Or.inl ⟨by rfl, ?hy91⟩) hH ?rest91
          case hy91 => (intro w hSw; (try dsimp only at hSw); go_simp; try with_reducible rfl)
          try simp only [Act.put, List.setIfInBounds_toArray, List.set_cons_zero, List.set_cons_succ, List.getElem_toArray, List.getElem_cons_zero]
          refine wpAnyH_take (i := 1) (v := ?v92) rfl (by kernel_rfl) (by kernel_rfl) (by kernel_rfl) (fun _ _ _ h => h) (Or.inl ⟨by rfl, ?hy92⟩) hH ?rest92
          case hy92 => (intro w hSw; (try dsimp only at hSw); go_simp; try with_reducible rfl)
          try simp only [Act.put, List.setIfInBounds_toArray, List.set_cons_zero, List.set_cons_succ, List.getElem_toArray, List.getElem_cons_zero, List.getElem_cons_succ]
          refine wpAnyH_take (i := 2) (v := ?v93) rfl (by kernel_rfl) (by kernel_rfl) (by kernel_rfl) (fun _ _ _ h => h) (Or.inl ⟨by rfl, ?hy93⟩) hH ?rest93
          case hy93 => (intro w hSw; (try dsimp only at hSw); go_simp; try with_reducible rfl)
          try simp only [Act.put, List.setIfInBounds_toArray, List.set_cons_zero, List.set_cons_succ, List.getElem_toArray, List.getElem_cons_zero, List.getElem_cons_succ]
          refine wpAnyH_take (i := 3) (v := ?v94) rfl (by kernel_rfl) (by kernel_rfl) (by kernel_rfl) (fun _ _ _ h => h) (Or.inl ⟨by rfl, ?hy94⟩) hH ?rest94
          case hy94 => (intro w hSw; (try dsimp only at hSw); go_simp; try with_reducible rfl)
          try simp only [Act.put, List.setIfInBounds_toArray, List.set_cons_zero, List.set_cons_succ, List.getElem_toArray, List.getElem_cons_zero, List.getElem_cons_succ]
          refine wpAnyH_take (i := 4) (v := ?v95) rfl (by kernel_rfl) (by kernel_rfl) (by kernel_rfl) (fun _ _ _ h => h) (Or.inl ⟨by rfl, ?hy95⟩) hH ?rest95
          case hy95 => (intro w hSw; (try dsimp only at hSw); obtain ⟨f0, f1, f2, f3⟩ := SB.out w hSw; go_simp; try with_reducible rfl)
          try simp only [Act.put, List.setIfInBounds_toArray, List.set_cons_zero, List.set_cons_succ, List.getElem_toArray, List.getElem_cons_zero, List.getElem_cons_succ]
          refine wpAnyH_ready (rs := [5]) (by kernel_rfl) (by simp) ?_
          refine AllReadyH.cons rfl (fun K hK => ?_) AllReadyH.nil
          go_simp
          go_at_call 18
          with_reducible refine (HP1 _ hH).out.mono ?_
          rintro e wq96 ⟨rfl, bq96⟩
          go_wp2_with fail
          refine hK.out _ _ (hH.trans (bq96.mono hH.size)) (fun hH2 => ?_)
          clear hK K hH
          have hH := hH2
          clear hH2
          try simp only [Act.put, List.setIfInBounds_toArray, List.set_cons_zero, List.set_cons_succ, List.getElem_toArray, List.getElem_cons_zero, List.getElem_cons_succ]
          refine wpAnyH_take (i := 6) (v := ?v97) rfl (by kernel_rfl) (by kernel_rfl) (by kernel_rfl) (fun _ _ _ h => h) (Or.inl ⟨by rfl, ?hy97⟩) hH ?rest97
          case hy97 => (intro w hSw; (try dsimp only at hSw); go_simp; try with_reducible rfl)
          try simp only [Act.put, List.setIfInBounds_toArray, List.set_cons_zero, List.set_cons_succ, List.getElem_toArray, List.getElem_cons_zero, List.getElem_cons_succ]
          refine wpAnyH_take (i := 7) (v := ?v98) rfl (by kernel_rfl) (by kernel_rfl) (by kernel_rfl) (fun _ _ _ h => h) (Or.inl ⟨by rfl, ?hy98⟩) hH ?rest98
          case hy98 => (intro w hSw; (try dsimp only at hSw); go_simp; try with_reducible rfl)
          try simp only [Act.put, List.setIfInBounds_toArray, List.set_cons_zero, List.set_cons_succ, List.getElem_toArray, List.getElem_cons_zero, List.getElem_cons_succ]
          refine wpAnyH_take (i := 8) (v := ?v99) rfl (by kernel_rfl) (by kernel_rfl) (by kernel_rfl) (fun _ _ _ h => h) (Or.inl ⟨by rfl, ?hy99⟩) hH ?rest99
          case hy99 => (intro w hSw; (try dsimp only at hSw); go_simp; try with_reducible rfl)
          try simp only [Act.put, List.setIfInBounds_toArray, List.set_cons_zero, List.set_cons_succ, List.getElem_toArray, List.getElem_cons_zero, List.getElem_cons_succ]
          refine wpAnyH_take (i := 9) (v := ?v100) rfl (by kernel_rfl) (by kernel_rfl) (by kernel_rfl) (fun _ _ _ h => h) (Or.inl ⟨by rfl, ?hy100⟩) hH ?rest100
          case hy100 => (intro w hSw; (try dsimp only at hSw); go_simp; try with_reducible rfl)
          try simp only [Act.put, List.setIfInBounds_toArray, List.set_cons_zero, List.set_cons_succ, List.getElem_toArray, List.getElem_cons_zero, List.getElem_cons_succ]
          refine wpAnyH_take (i := 10) (v := ?v101) rfl (by kernel_rfl) (by kernel_rfl) (by kernel_rfl) (fun _ _ _ h => h) (Or.inl ⟨by rfl, ?hy101⟩) hH ?rest101
          case hy101 => (intro w hSw; (try dsimp only at hSw); go_simp; try with_reducible rfl)
          try simp only [Act.put, List.setIfInBounds_toArray, List.set_cons_zero, List.set_cons_succ, List.getElem_toArray, List.getElem_cons_zero, List.getElem_cons_succ]
          refine wpAnyH_take (i := 11) (v := ?v102) rfl (by kernel_rfl) (by kernel_rfl) (by kernel_rfl) (fun _ _ _ h => h) (Or.inl ⟨by rfl, ?hy102⟩) hH ?rest102
          case hy102 => (intro w hSw; (try dsimp only at hSw); go_simp; try with_reducible rfl)
          try simp only [Act.put, List.setIfInBounds_toArray, List.set_cons_zero, List.set_cons_succ, List.getElem_toArray, List.getElem_cons_zero, List.getElem_cons_succ]
          refine wpAnyH_take (i := 12) (v := ?v103) rfl (by kernel_rfl) (by kernel_rfl) (by kernel_rfl) (fun _ _ _ h => h) (Or.inl ⟨by rfl, ?hy103⟩) hH ?rest103
          case hy103 => (intro w hSw; (try dsimp only at hSw); obtain ⟨f0, f1, f2, f3⟩ := SB.out w hSw; go_simp; try with_reducible rfl)
          try simp only [Act.put, List.setIfInBounds_toArray, List.set_cons_zero, List.set_cons_succ, List.getElem_toArray, List.getElem_cons_zero, List.getElem_cons_succ]
          refine wpAnyH_ready (rs := [13]) (by kernel_rfl) (by simp) ?_
          refine AllReadyH.cons rfl (fun K hK => ?_) AllReadyH.nil
          go_simp
          go_at_call 18
          with_reducible refine (HP2 _ hH).out.mono ?_
          rintro e wq104 ⟨rfl, bq104⟩
          go_wp2_with fail
          refine hK.out _ _ (hH.trans (bq104.mono hH.size)) (fun hH2 => ?_)
          clear hK K hH
          have hH := hH2
          clear hH2
          try simp only [Act.put, List.setIfInBounds_toArray, List.set_cons_zero, List.set_cons_succ, List.getElem_toArray, List.getElem_cons_zero, List.getElem_cons_succ]
          refine wpAnyH_take (i := 14) (v := ?v105) rfl (by kernel_rfl) (by kernel_rfl) (by kernel_rfl) (fun _ _ _ h => h) (Or.inl ⟨by rfl, ?hy105⟩) hH ?rest105
          case hy105 => (intro w hSw; (try dsimp only at hSw); go_simp; try with_reducible rfl)
          try simp only [Act.put, List.setIfInBounds_toArray, List.set_cons_zero, List.set_cons_succ, List.getElem_toArray, List.getElem_cons_zero, List.getElem_cons_succ]
          refine wpAnyH_take (i := 15) (v := ?v106) rfl (by kernel_rfl) (by kernel_rfl) (by kernel_rfl) (fun _ _ _ h => h) (Or.inl ⟨by rfl, ?hy106⟩) hH ?rest106
          case hy106 => (intro w hSw; (try dsimp only at hSw); go_simp; try with_reducible rfl)
          try simp only [Act.put, List.setIfInBounds_toArray, List.set_cons_zero, List.set_cons_succ, List.getElem_toArray, List.getElem_cons_zero, List.getElem_cons_succ]
          refine wpAnyH_take (i := 16) (v := ?v107) rfl (by kernel_rfl) (by kernel_rfl) (by kernel_rfl) (fun _ _ _ h => h) (Or.inl ⟨by rfl, ?hy107⟩) hH ?rest107
          case hy107 => (intro w hSw; (try dsimp only at hSw); go_simp; try with_reducible rfl)
          try simp only [Act.put, List.setIfInBounds_toArray, List.set_cons_zero, List.set_cons_succ, List.getElem_toArray, List.getElem_cons_zero, List.getElem_cons_succ]
          refine wpAnyH_take (i := 17) (v := ?v108) rfl (by kernel_rfl) (by kernel_rfl) (by kernel_rfl) (fun _ _ _ h => h) (Or.inl ⟨by rfl, ?hy108⟩) hH ?rest108
          case hy108 => (intro w hSw; (try dsimp only at hSw); go_simp; try with_reducible rfl)
          try simp only [Act.put, List.setIfInBounds_toArray, List.set_cons_zero, List.set_cons_succ, List.getElem_toArray, List.getElem_cons_zero, List.getElem_cons_succ]
          refine wpAnyH_take (i := 18) (v := ?v109) rfl (by kernel_rfl) (by kernel_rfl) (by kernel_rfl) (fun _ _ _ h => h) (Or.inl ⟨by rfl, ?hy109⟩) hH ?rest109
          case hy109 => (intro w hSw; (try dsimp only at hSw); go_simp; try with_reducible rfl)
          try simp only [Act.put, List.setIfInBounds_toArray, List.set_cons_zero, List.set_cons_succ, List.getElem_toArray, List.getElem_cons_zero, List.getElem_cons_succ]
          refine wpAnyH_take (i := 19) (v := ?v110) rfl (by kernel_rfl) (by kernel_rfl) (by kernel_rfl) (fun _ _ _ h => h) (Or.inl ⟨by rfl, ?hy110⟩) hH ?rest110
          case hy110 => (intro w hSw; (try dsimp only at hSw); go_simp; try with_reducible rfl)
          try simp only [Act.put, List.setIfInBounds_toArray, List.set_cons_zero, List.set_cons_succ, List.getElem_toArray, List.getElem_cons_zero, List.getElem_cons_succ]
          refine wpAnyH_take (i := 20) (v := ?v111) rfl (by kernel_rfl) (by kernel_rfl) (by kernel_rfl) (fun _ _ _ h => h) (Or.inl ⟨by rfl, ?hy111⟩) hH ?rest111
          case hy111 => (intro w hSw; (try dsimp only at hSw); go_simp; try with_reducible rfl)
          try simp only [Act.put, List.setIfInBounds_toArray, List.set_cons_zero, List.set_cons_succ, List.getElem_toArray, List.getElem_cons_zero, List.getElem_cons_succ]
          refine wpAnyH_take (i := 21) (v := ?v112) rfl (by kernel_rfl) (by kernel_rfl) (by kernel_rfl) (fun _ _ _ h => h) (Or.inl ⟨by rfl, ?hy112⟩) hH ?rest112
          case hy112 => (intro w hSw; (try dsimp only at hSw); go_simp; try with_reducible rfl)
          try simp only [Act.put, List.setIfInBounds_toArray, List.set_cons_zero, List.set_cons_succ, List.getElem_toArray, List.getElem_cons_zero, List.getElem_cons_succ]
          refine wpAnyH_take (i := 25) (v := ?v113) rfl (by kernel_rfl) (by kernel_rfl) (by kernel_rfl) (fun _ _ _ h => h) (Or.inl ⟨by rfl, ?hy113⟩) hH ?rest113
          case hy113 => (intro w hSw; (try dsimp only at hSw); go_simp; try with_reducible rfl)
          try simp only [Act.put, List.setIfInBounds_toArray, List.set_cons_zero, List.set_cons_succ, List.getElem_toArray, List.getElem_cons_zero, List.getElem_cons_succ]
          refine wpAnyH_take (i := 26) (v := ?v114) rfl (by kernel_rfl) (by kernel_rfl) (by kernel_rfl) (fun _ _ _ h => h) (Or.inl ⟨by rfl, ?hy114⟩) hH ?rest114
          case hy114 => (intro w hSw; (try dsimp only at hSw); go_simp; try with_reducible rfl)
          try simp only [Act.put, List.setIfInBounds_toArray, List.set_cons_zero, List.set_cons_succ, List.getElem_toArray, List.getElem_cons_zero, List.getElem_cons_succ]
          refine wpAnyH_take (i := 22) (v := ?v115) rfl (by kernel_rfl) (by kernel_rfl) (by kernel_rfl) (fun _ _ _ h => h) (Or.inl ⟨by rfl, ?hy115⟩) hH ?rest115
          case hy115 => (intro w hSw; (try dsimp only at hSw); go_simp; try with_reducible rfl)
          try simp only [Act.put, List.setIfInBounds_toArray, List.set_cons_zero, List.set_cons_succ, List.getElem_toArray, List.getElem_cons_zero, List.getElem_cons_succ]
          refine wpAnyH_take (i := 27) (v := ?v116) rfl (by kernel_rfl) (by kernel_rfl) (by kernel_rfl) (fun _ _ _ h => h) (Or.inl ⟨by rfl, ?hy116⟩) hH ?rest116
          case hy116 => (intro w hSw; (try dsimp only at hSw); go_simp; try with_reducible rfl)
          try simp only [Act.put, List.setIfInBounds_toArray, List.set_cons_zero, List.set_cons_succ, List.getElem_toArray, List.getElem_cons_zero, List.getElem_cons_succ]
          refine wpAnyH_take (i := 23) (v := ?v117) rfl (by kernel_rfl) (by kernel_rfl) (by kernel_rfl) (fun _ _ _ h => h) (Or.inl ⟨by rfl, ?hy117⟩) hH ?rest117
          case hy117 => (intro w hSw; (try dsimp only at hSw); go_simp; try with_reducible rfl)
          try simp only [Act.put, List.setIfInBounds_toArray, List.set_cons_zero, List.set_cons_succ, List.getElem_toArray, List.getElem_cons_zero, List.getElem_cons_succ]
          refine wpAnyH_take (i := 28) (v := ?v118) rfl (by kernel_rfl) (by kernel_rfl) (by kernel_rfl) (fun _ _ _ h => h) (Or.inl ⟨by rfl, ?hy118⟩) hH ?rest118
          case hy118 => (intro w hSw; (try dsimp only at hSw); go_simp; try with_reducible rfl)
          try simp only [Act.put, List.setIfInBounds_toArray, List.set_cons_zero, List.set_cons_succ, List.getElem_toArray, List.getElem_cons_zero, List.getElem_cons_succ]
          refine wpAnyH_take (i := 24) (v := ?v119) rfl (by kernel_rfl) (by kernel_rfl) (by kernel_rfl) (fun _ _ _ h => h) (Or.inl ⟨by rfl, ?hy119⟩) hH ?rest119
          case hy119 => (intro w hSw; (try dsimp only at hSw); obtain ⟨f0, f1, f2, f3⟩ := SB.out w hSw; go_simp; try with_reducible rfl)
          try simp only [Act.put, List.setIfInBounds_toArray, List.set_cons_zero, List.set_cons_succ, List.getElem_toArray, List.getElem_cons_zero, List.getElem_cons_succ]
          refine wpAnyH_take (i := 29) (v := ?v120) rfl (by kernel_rfl) (by kernel_rfl) (by kernel_rfl) (fun _ _ _ h => h) (Or.inl ⟨by rfl, ?hy120⟩) hH ?rest120
          case hy120 => (intro w hSw; (try dsimp only at hSw); go_simp; try with_reducible rfl)
          try simp only [Act.put, List.setIfInBounds_toArray, List.set_cons_zero, List.set_cons_succ, List.getElem_toArray, List.getElem_cons_zero, List.getElem_cons_succ]
          refine wpAnyH_take (i := 30) (v := ?v121) rfl (by kernel_rfl) (by kernel_rfl) (by kernel_rfl) (fun _ _ _ h => h) (Or.inl ⟨by rfl, ?hy121⟩) hH ?rest121
          case hy121 => (intro w hSw; (try dsimp only at hSw); obtain ⟨f0, f1, f2, f3⟩ := SB.out w hSw; go_simp; try with_reducible rfl)
          try simp only [Act.put, List.setIfInBounds_toArray, List.set_cons_zero, List.set_cons_succ, List.getElem_toArray, List.getElem_cons_zero, List.getElem_cons_succ]
          refine wpAnyH_take (i := 31) (v := ?v122) rfl (by kernel_rfl) (by kernel_rfl) (by kernel_rfl) (fun _ _ _ h => h) (Or.inl ⟨by rfl, ?hy122⟩) hH ?rest122
          case hy122 => (intro w hSw; (try dsimp only at hSw); go_simp; try with_reducible rfl)
          try simp only [Act.put, List.setIfInBounds_toArray, List.set_cons_zero, List.set_cons_succ, List.getElem_toArray, List.getElem_cons_zero, List.getElem_cons_succ]
          refine wpAnyH_take (i := 32) (v := ?v123) rfl (by kernel_rfl) (by kernel_rfl) (by kernel_rfl) (fun _ _ _ h => h) (Or.inl ⟨by rfl, ?hy123⟩) hH ?rest123
          case hy123 => (intro w hSw; (try dsimp only at hSw); go_simp; try with_reducible rfl)
          try simp only [Act.put, List.setIfInBounds_toArray, List.set_cons_zero, List.set_cons_succ, List.getElem_toArray, List.getElem_cons_zero, List.getElem_cons_succ]
          refine wpAnyH_take (i := 33) (v := ?v124) rfl (by kernel_rfl) (by kernel_rfl) (by kernel_rfl) (fun _ _ _ h => h) (Or.inl ⟨by rfl, ?hy124⟩) hH ?rest124
          case hy124 => (intro w hSw; (try dsimp only at hSw); go_simp; try with_reducible rfl)
          try simp only [Act.put, List.setIfInBounds_toArray, List.set_cons_zero, List.set_cons_succ, List.getElem_toArray, List.getElem_cons_zero, List.getElem_cons_succ]
          refine wpAnyH_take (i := 34) (v := ?v125) rfl (by kernel_rfl) (by kernel_rfl) (by kernel_rfl) (fun _ _ _ h => h) (Or.inl ⟨by rfl, ?hy125⟩) hH ?rest125
          case hy125 => (intro w hSw; (try dsimp only at hSw); go_simp; try with_reducible rfl)
          try simp only [Act.put, List.setIfInBounds_toArray, List.set_cons_zero, List.set_cons_succ, List.getElem_toArray, List.getElem_cons_zero, List.getElem_cons_succ]
          refine wpAnyH_take (i := 38) (v := ?v126) rfl (by kernel_rfl) (by kernel_rfl) (by kernel_rfl) (fun _ _ _ h => h) (Or.inl ⟨by rfl, ?hy126⟩) hH ?rest126
          case hy126 => (intro w hSw; (try dsimp only at hSw); go_simp; try with_reducible rfl)
          try simp only [Act.put, List.setIfInBounds_toArray, List.set_cons_zero, List.set_cons_succ, List.getElem_toArray, List.getElem_cons_zero, List.getElem_cons_succ]
          refine wpAnyH_take (i := 39) (v := ?v127) rfl (by kernel_rfl) (by kernel_rfl) (by kernel_rfl) (fun _ _ _ h => h) (Or.inl ⟨by rfl, ?hy127⟩) hH ?rest127
          case hy127 => (intro w hSw; (try dsimp only at hSw); go_simp; try with_reducible rfl)
          try simp only [Act.put, List.setIfInBounds_toArray, List.set_cons_zero, List.set_cons_succ, List.getElem_toArray, List.getElem_cons_zero, List.getElem_cons_succ]
          refine wpAnyH_take (i := 35) (v := ?v128) rfl (by kernel_rfl) (by kernel_rfl) (by kernel_rfl) (fun _ _ _ h => h) (Or.inl ⟨by rfl, ?hy128⟩) hH ?rest128
          case hy128 => (intro w hSw; (try dsimp only at hSw); go_simp; try with_reducible rfl)
          try simp only [Act.put, List.setIfInBounds_toArray, List.set_cons_zero, List.set_cons_succ, List.getElem_toArray, List.getElem_cons_zero, List.getElem_cons_succ]
          refine wpAnyH_take (i := 40) (v := ?v129) rfl (by kernel_rfl) (by kernel_rfl) (by kernel_rfl) (fun _ _ _ h => h) (Or.inl ⟨by rfl, ?hy129⟩) hH ?rest129
          case hy129 => (intro w hSw; (try dsimp only at hSw); go_simp; try with_reducible rfl)
          try simp only [Act.put, List.setIfInBounds_toArray, List.set_cons_zero, List.set_cons_succ, List.getElem_toArray, List.getElem_cons_zero, List.getElem_cons_succ]
          refine wpAnyH_take (i := 36) (v := ?v130) rfl (by kernel_rfl) (by kernel_rfl) (by kernel_rfl) (fun _ _ _ h => h) (Or.inl ⟨by rfl, ?hy130⟩) hH ?rest130
          case hy130 => (intro w hSw; (try dsimp only at hSw); go_simp; try with_reducible rfl)
          try simp only [Act.put, List.setIfInBounds_toArray, List.set_cons_zero, List.set_cons_succ, List.getElem_toArray, List.getElem_cons_zero, List.getElem_cons_succ]
          refine wpAnyH_take (i := 41) (v := ?v131) rfl (by kernel_rfl) (by kernel_rfl) (by kernel_rfl) (fun _ _ _ h => h) (Or.inl ⟨by rfl, ?hy131⟩) hH ?rest131
          case hy131 => (intro w hSw; (try dsimp only at hSw); go_simp; try with_reducible rfl)
          try simp only [Act.put, List.setIfInBounds_toArray, List.set_cons_zero, List.set_cons_succ, List.getElem_toArray, List.getElem_cons_zero, List.getElem_cons_succ]
          refine wpAnyH_take (i := 37) (v := ?v132) rfl (by kernel_rfl) (by kernel_rfl) (by kernel_rfl) (fun _ _ _ h => h) (Or.inl ⟨by rfl, ?hy132⟩) hH ?rest132
          case hy132 => (intro w hSw; (try dsimp only at hSw); obtain ⟨f0, f1, f2, f3⟩ := SB.out w hSw; go_simp; try with_reducible rfl)
          try simp only [Act.put, List.setIfInBounds_toArray, List.set_cons_zero, List.set_cons_succ, List.getElem_toArray, List.getElem_cons_zero, List.getElem_cons_succ]
          refine wpAnyH_take (i := 42) (v := ?v133) rfl (by kernel_rfl) (by kernel_rfl) (by kernel_rfl) (fun _ _ _ h => h) (Or.inl ⟨by rfl, ?hy133⟩) hH ?rest133
          case hy133 => (intro w hSw; (try dsimp only at hSw); go_simp; try with_reducible rfl)
          try simp only [Act.put, List.setIfInBounds_toArray, List.set_cons_zero, List.set_cons_succ, List.getElem_toArray, List.getElem_cons_zero, List.getElem_cons_succ]
          refine wpAnyH_take (i := 43) (v := ?v134) rfl (by kernel_rfl) (by kernel_rfl) (by kernel_rfl) (fun _ _ _ h => h) (Or.inl ⟨by rfl, ?hy134⟩) hH ?rest134
          case hy134 => (intro w hSw; (try dsimp only at hSw); obtain ⟨f0, f1, f2, f3⟩ := SB.out w hSw; go_simp; try with_reducible rfl)
          try simp only [Act.put, List.setIfInBounds_toArray, List.set_cons_zero, List.set_cons_succ, List.getElem_toArray, List.getElem_cons_zero, List.getElem_cons_succ]
          refine wpAnyH_take (i := 44) (v := ?v135) rfl (by kernel_rfl) (by kernel_rfl) (by kernel_rfl) (fun _ _ _ h => h) (Or.inl ⟨by rfl, ?hy135⟩) hH ?rest135
          case hy135 => (intro w hSw; (try dsimp only at hSw); go_simp; try with_reducible rfl)
          try simp only [Act.put, List.setIfInBounds_toArray, List.set_cons_zero, List.set_cons_succ, List.getElem_toArray, List.getElem_cons_zero, List.getElem_cons_succ]
          refine wpAnyH_take (i := 45) (v := ?v136) rfl (by kernel_rfl) (by kernel_rfl) (by kernel_rfl) (fun _ _ _ h => h) (Or.inl ⟨by rfl, ?hy136⟩) hH ?rest136
          case hy136 => (intro w hSw; (try dsimp only at hSw); go_simp; try with_reducible rfl)
          try simp only [Act.put, List.setIfInBounds_toArray, List.set_cons_zero, List.set_cons_succ, List.getElem_toArray, List.getElem_cons_zero, List.getElem_cons_succ]
          refine wpAnyH_take (i := 46) (v := ?v137) rfl (by kernel_rfl) (by kernel_rfl) (by kernel_rfl) (fun _ _ _ h => h) (Or.inl ⟨by rfl, ?hy137⟩) hH ?rest137
          case hy137 => (intro w hSw; (try dsimp only at hSw); go_simp; try with_reducible rfl)
          try simp only [Act.put, List.setIfInBounds_toArray, List.set_cons_zero, List.set_cons_succ, List.getElem_toArray, List.getElem_cons_zero, List.getElem_cons_succ]
          refine wpAnyH_take (i := 47) (v := ?v138) rfl (by kernel_rfl) (by kernel_rfl) (by kernel_rfl) (fun _ _ _ h => h) (Or.inl ⟨by rfl, ?hy138⟩) hH ?rest138
          case hy138 => (intro w hSw; (try dsimp only at hSw); go_simp; try with_reducible rfl)
          try simp only [Act.put, List.setIfInBounds_toArray, List.set_cons_zero, List.set_cons_succ, List.getElem_toArray, List.getElem_cons_zero, List.getElem_cons_succ]
          refine wpAnyH_take (i := 51) (v := ?v139) rfl (by kernel_rfl) (by kernel_rfl) (by kernel_rfl) (fun _ _ _ h => h) (Or.inl ⟨by rfl, ?hy139⟩) hH ?rest139
          case hy139 => (intro w hSw; (try dsimp only at hSw); go_simp; try with_reducible rfl)
          try simp only [Act.put, List.setIfInBounds_toArray, List.set_cons_zero, List.set_cons_succ, List.getElem_toArray, List.getElem_cons_zero, List.getElem_cons_succ]
          refine wpAnyH_take (i := 52) (v := ?v140) rfl (by kernel_rfl) (by kernel_rfl) (by kernel_rfl) (fun _ _ _ h => h) (Or.inl ⟨by rfl, ?hy140⟩) hH ?rest140
          case hy140 => (intro w hSw; (try dsimp only at hSw); go_simp; try with_reducible rfl)
          try simp only [Act.put, List.setIfInBounds_toArray, List.set_cons_zero, List.set_cons_succ, List.getElem_toArray, List.getElem_cons_zero, List.getElem_cons_succ]
          refine wpAnyH_take (i := 48) (v := ?v141) rfl (by kernel_rfl) (by kernel_rfl) (by kernel_rfl) (fun _ _ _ h => h) (Or.inl ⟨by rfl, ?hy141⟩) hH ?rest141
          case hy141 => (intro w hSw; (try dsimp only at hSw); go_simp; try with_reducible rfl)
          try simp only [Act.put, List.setIfInBounds_toArray, List.set_cons_zero, List.set_cons_succ, List.getElem_toArray, List.getElem_cons_zero, List.getElem_cons_succ]
          refine wpAnyH_take (i := 53) (v := ?v142) rfl (by kernel_rfl) (by kernel_rfl) (by kernel_rfl) (fun _ _ _ h => h) (Or.inl ⟨by rfl, ?hy142⟩) hH ?rest142
          case hy142 => (intro w hSw; (try dsimp only at hSw); go_simp; try with_reducible rfl)
          try simp only [Act.put, List.setIfInBounds_toArray, List.set_cons_zero, List.set_cons_succ, List.getElem_toArray, List.getElem_cons_zero, List.getElem_cons_succ]
          refine wpAnyH_take (i := 49) (v := ?v143) rfl (by kernel_rfl) (by kernel_rfl) (by kernel_rfl) (fun _ _ _ h => h) (Or.inl ⟨by rfl, ?hy143⟩) hH ?rest143
          case hy143 => (intro w hSw; (try dsimp only at hSw); go_simp; try with_reducible rfl)
          try simp only [Act.put, List.setIfInBounds_toArray, List.set_cons_zero, List.set_cons_succ, List.getElem_toArray, List.getElem_cons_zero, List.getElem_cons_succ]
          refine wpAnyH_take (i := 54) (v := ?v144) rfl (by kernel_rfl) (by kernel_rfl) (by kernel_rfl) (fun _ _ _ h => h) (Or.inl ⟨by rfl, ?hy144⟩) hH ?rest144
          case hy144 => (intro w hSw; (try dsimp only at hSw); go_simp; try with_reducible rfl)
          try simp only [Act.put, List.setIfInBounds_toArray, List.set_cons_zero, List.set_cons_succ, List.getElem_toArray, List.getElem_cons_zero, List.getElem_cons_succ]
          refine wpAnyH_take (i := 50) (v := ?v145) rfl (by kernel_rfl) (by kernel_rfl) (by kernel_rfl) (fun _ _ _ h => h) (Or.inl ⟨by rfl, ?hy145⟩) hH ?rest145
          case hy145 => (intro w hSw; (try dsimp only at hSw); obtain ⟨f0, f1, f2, f3⟩ := SB.out w hSw; go_simp; try with_reducible rfl)
          try simp only [Act.put, List.setIfInBounds_toArray, List.set_cons_zero, List.set_cons_succ, List.getElem_toArray, List.getElem_cons_zero, List.getElem_cons_succ]
          refine wpAnyH_take (i := 55) (v := ?v146) rfl (by kernel_rfl) (by kernel_rfl) (by kernel_rfl) (fun _ _ _ h => h) (Or.inl ⟨by rfl, ?hy146⟩) hH ?rest146
          case hy146 => (intro w hSw; (try dsimp only at hSw); go_simp; try with_reducible rfl)
          try simp only [Act.put, List.setIfInBounds_toArray, List.set_cons_zero, List.set_cons_succ, List.getElem_toArray, List.getElem_cons_zero, List.getElem_cons_succ]
          refine wpAnyH_take (i := 56) (v := ?v147) rfl (by kernel_rfl) (by kernel_rfl) (by kernel_rfl) (fun _ _ _ h => h) (Or.inl ⟨by rfl, ?hy147⟩) hH ?rest147
          case hy147 => (intro w hSw; (try dsimp only at hSw); obtain ⟨f0, f1, f2, f3⟩ := SB.out w hSw; go_simp; try with_reducible rfl)
          try simp only [Act.put, List.setIfInBounds_toArray, List.set_cons_zero, List.set_cons_succ, List.getElem_toArray, List.getElem_cons_zero, List.getElem_cons_succ]
          refine wpAnyH_take (i := 57) (v := ?v148) rfl (by kernel_rfl) (by kernel_rfl) (by kernel_rfl) (fun _ _ _ h => h) (Or.inl ⟨by rfl, ?hy148⟩) hH ?rest148
          case hy148 => (intro w hSw; (try dsimp only at hSw); go_simp; try with_reducible rfl)
          try simp only [Act.put, List.setIfInBounds_toArray, List.set_cons_zero, List.set_cons_succ, List.getElem_toArray, List.getElem_cons_zero, List.getElem_cons_succ]
          refine wpAnyH_take (i := 58) (v := ?v149) rfl (by kernel_rfl) (by kernel_rfl) (by kernel_rfl) (fun _ _ _ h => h) (Or.inl ⟨by rfl, ?hy149⟩) hH ?rest149
          case hy149 => (intro w hSw; (try dsimp only at hSw); go_simp; try with_reducible rfl)
          try simp only [Act.put, List.setIfInBounds_toArray, List.set_cons_zero, List.set_cons_succ, List.getElem_toArray, List.getElem_cons_zero, List.getElem_cons_succ]
          refine wpAnyH_take (i := 59) (v := ?v150) rfl (by kernel_rfl) (by kernel_rfl) (by kernel_rfl) (fun _ _ _ h => h) (Or.inl ⟨by rfl, ?hy150⟩) hH ?rest150
          case hy150 => (intro w hSw; (try dsimp only at hSw); go_simp; try with_reducible rfl)
          try simp only [Act.put, List.setIfInBounds_toArray, List.set_cons_zero, List.set_cons_succ, List.getElem_toArray, List.getElem_cons_zero, List.getElem_cons_succ]
          refine wpAnyH_take (i := 60) (v := ?v151) rfl (by kernel_rfl) (by kernel_rfl) (by kernel_rfl) (fun _ _ _ h => h) (Or.inl ⟨by rfl, ?hy151⟩) hH ?rest151
          case hy151 => (intro w hSw; (try dsimp only at hSw); go_simp; try with_reducible rfl)
          try simp only [Act.put, List.setIfInBounds_toArray, List.set_cons_zero, List.set_cons_succ, List.getElem_toArray, List.getElem_cons_zero, List.getElem_cons_succ]
          refine wpAnyH_take (i := 61) (v := ?v152) rfl (by kernel_rfl) (by kernel_rfl) (by kernel_rfl) (fun _ _ _ h => h) (Or.inl ⟨by rfl, ?hy152⟩) hH ?rest152
          case hy152 => (intro w hSw; (try dsimp only at hSw); go_simp; try with_reducible rfl)
          try simp only [Act.put, List.setIfInBounds_toArray, List.set_cons_zero, List.set_cons_succ, List.getElem_toArray, List.getElem_cons_zero, List.getElem_cons_succ]
          refine wpAnyH_done (by kernel_rfl) ?_ _
          clear hz1 hz2 heq1 hle1 hlt1 hw
          have HBr := Lib.hid (hB.out.trans (hH.mono hB.out.size))
          clear HP1 HP2 SB BD hB hH HIl
          go_wp2
          go_loopg [10, 11] l.length (fun q v t W => ∃ j : Nat, ∃ b : Bool, j + q = l.length ∧ v = .bool b ∧ t = .int .i64 (j : Int) ∧ Hid (b = (l.take j).any fun n => wa n (xb, xs)) ∧ Hid (Below w4.heap.size w4 W))
          case atStart => exact ⟨0, false, by omega, rfl, rfl, rfl, HBr.out⟩
          case round =>
            clear HBr
            obtain ⟨j, bo, hj, rfl, rfl, hb, hB⟩ := hrel
            by_cases hjt : j < l.length
            · have hji : (j : Int) < (l.length : Int) := by omega
              have hj0 : (0 : Int) ≤ (j : Int) := by omega
              have HY := Lib.hid (List.getElem?_eq_getElem hjt)
              have hNw := HNl.out.to hB.out hB.out.size
              obtain ⟨b, off, rfl, hbl, q0, q1, q2, q3⟩ := hNw.at_ HY.out
              obtain ⟨b4, off4, e4, hbl4, m0, m1⟩ := (HM.out.to hB.out hB.out.size).at_ HX.out
              cases e4
              have HQ : Hid (((l.take (j + 1)).any fun n => wa n (xb, xs)) = (((l.take j).any fun n => wa n (xb, xs)) || wa l[j] (xb, xs))) := by
                show _ = _
                rw [← List.take_append_getElem hjt, List.any_append]
                simp
              have HW : ∀ V, Below wr.heap.size wr V → Hid (Calls Tryz.prog 20 #[.agg #[.int .i64 l[j].q, .slice l[j].h l[j].d.length l[j].c], .agg #[.int .i64 xb, .int .i64 xs]] V (At.BoolPost V (wa l[j] (xb, xs)))) := fun V hV =>
                At.waits_any l[j].q xb xs l[j].h l[j].c l[j].d V (((HDl.out _ (List.getElem_mem hjt)).to hB.out hB.out.size).to hV hV.size) (by have := HMb1.out; omega)
              generalize wa l[j] (xb, xs) = wv at *
              generalize l[j] = y at *
              obtain ⟨yb, ys, yq, yd, yh, yc⟩ := y
              simp only at *
              have SB : Hid (∀ v, Below wr.heap.size wr v → v.cell? ⟨b, off + j * 4 + 2, none⟩ = some (.int .i64 yq) ∧ v.cell? ⟨b, off + j * 4 + 3, none⟩ = some (.slice yh yd.length yc) ∧ v.cell? ⟨b3', off3 + k * 2, none⟩ = some (.int .i64 xb) ∧ v.cell? ⟨b3', off3 + k * 2 + 1, none⟩ = some (.int .i64 xs)) := Lib.hid (fun v g => ⟨(World.cell?_of_block (g.block _ hbl)).trans q2, (World.cell?_of_block (g.block _ hbl)).trans q3, (World.cell?_of_block (g.block _ hbl4)).trans m0, (World.cell?_of_block (g.block _ hbl4)).trans m1⟩)
              have BD : Hid (Below wr.heap.size wr wr.drew) := (Below.refl _ _).drew
              clear q0 q1 q2 q3 m0 m1 hNw
              rcases bo with _ | _
              · go_wp2_with fail
                refine wp_region_held_drew (S := fun v => Below wr.heap.size wr v) (by kernel_rfl) BD.out (fun hH => ?_)
                refine wpAnyH_take (i := 0) (v := ?v153) rfl (by kernel_rfl) (by kernel_rfl) (by kernel_rfl) (fun _ _ _ h => h) (Or.inl ⟨by rfl, ?hy153⟩) hH ?rest153
                case hy153 => (intro w hSw; (try dsimp only at hSw); go_simp; try with_reducible rfl)
                try simp only [Act.put, List.setIfInBounds_toArray, List.set_cons_zero, List.set_cons_succ, List.getElem_toArray, List.getElem_cons_zero]
                refine wpAnyH_take (i := 1) (v := ?v154) rfl (by kernel_rfl) (by kernel_rfl) (by kernel_rfl) (fun _ _ _ h => h) (Or.inl ⟨by rfl, ?hy154⟩) hH ?rest154
                case hy154 => (intro w hSw; (try dsimp only at hSw); go_simp; try with_reducible rfl)
                try simp only [Act.put, List.setIfInBounds_toArray, List.set_cons_zero, List.set_cons_succ, List.getElem_toArray, List.getElem_cons_zero, List.getElem_cons_succ]
                refine wpAnyH_take (i := 2) (v := ?v155) rfl (by kernel_rfl) (by kernel_rfl) (by kernel_rfl) (fun _ _ _ h => h) (Or.inl ⟨by rfl, ?hy155⟩) hH ?rest155
                case hy155 => (intro w hSw; (try dsimp only at hSw); go_simp; try with_reducible rfl)
                try simp only [Act.put, List.setIfInBounds_toArray, List.set_cons_zero, List.set_cons_succ, List.getElem_toArray, List.getElem_cons_zero, List.getElem_cons_succ]
                refine wpAnyH_take (i := 3) (v := ?v156) rfl (by kernel_rfl) (by kernel_rfl) (by kernel_rfl) (fun _ _ _ h => h) (Or.inl ⟨by rfl, ?hy156⟩) hH ?rest156
                case hy156 => (intro w hSw; (try dsimp only at hSw); go_simp; try with_reducible rfl)
                try simp only [Act.put, List.setIfInBounds_toArray, List.set_cons_zero, List.set_cons_succ, List.getElem_toArray, List.getElem_cons_zero, List.getElem_cons_succ]
                refine wpAnyH_take (i := 7) (v := ?v157) rfl (by kernel_rfl) (by kernel_rfl) (by kernel_rfl) (fun _ _ _ h => h) (Or.inl ⟨by rfl, ?hy157⟩) hH ?rest157
                case hy157 => (intro w hSw; (try dsimp only at hSw); go_simp; try with_reducible rfl)
                try simp only [Act.put, List.setIfInBounds_toArray, List.set_cons_zero, List.set_cons_succ, List.getElem_toArray, List.getElem_cons_zero, List.getElem_cons_succ]
                refine wpAnyH_take (i := 8) (v := ?v158) rfl (by kernel_rfl) (by kernel_rfl) (by kernel_rfl) (fun _ _ _ h => h) (Or.inl ⟨by rfl, ?hy158⟩) hH ?rest158
                case hy158 => (intro w hSw; (try dsimp only at hSw); go_simp; try with_reducible rfl)
                try simp only [Act.put, List.setIfInBounds_toArray, List.set_cons_zero, List.set_cons_succ, List.getElem_toArray, List.getElem_cons_zero, List.getElem_cons_succ]
                refine wpAnyH_take (i := 4) (v := ?v159) rfl (by kernel_rfl) (by kernel_rfl) (by kernel_rfl) (fun _ _ _ h => h) (Or.inl ⟨by rfl, ?hy159⟩) hH ?rest159
                case hy159 => (intro w hSw; (try dsimp only at hSw); go_simp; try with_reducible rfl)
                try simp only [Act.put, List.setIfInBounds_toArray, List.set_cons_zero, List.set_cons_succ, List.getElem_toArray, List.getElem_cons_zero, List.getElem_cons_succ]
                refine wpAnyH_take (i := 9) (v := ?v160) rfl (by kernel_rfl) (by kernel_rfl) (by kernel_rfl) (fun _ _ _ h => h) (Or.inl ⟨by rfl, ?hy160⟩) hH ?rest160
                case hy160 => (intro w hSw; (try dsimp only at hSw); go_simp; try with_reducible rfl)
                try simp only [Act.put, List.setIfInBounds_toArray, List.set_cons_zero, List.set_cons_succ, List.getElem_toArray, List.getElem_cons_zero, List.getElem_cons_succ]
                refine wpAnyH_take (i := 5) (v := ?v161) rfl (by kernel_rfl) (by kernel_rfl) (by kernel_rfl) (fun _ _ _ h => h) (Or.inl ⟨by rfl, ?hy161⟩) hH ?rest161
                case hy161 => (intro w hSw; (try dsimp only at hSw); go_simp; try with_reducible rfl)
                try simp only [Act.put, List.setIfInBounds_toArray, List.set_cons_zero, List.set_cons_succ, List.getElem_toArray, List.getElem_cons_zero, List.getElem_cons_succ]
                refine wpAnyH_take (i := 10) (v := ?v162) rfl (by kernel_rfl) (by kernel_rfl) (by kernel_rfl) (fun _ _ _ h => h) (Or.inl ⟨by rfl, ?hy162⟩) hH ?rest162
                case hy162 => (intro w hSw; (try dsimp only at hSw); obtain ⟨f0, f1, f2, f3⟩ := SB.out w hSw; go_simp; try with_reducible rfl)
                try simp only [Act.put, List.setIfInBounds_toArray, List.set_cons_zero, List.set_cons_succ, List.getElem_toArray, List.getElem_cons_zero, List.getElem_cons_succ]
                refine wpAnyH_take (i := 6) (v := ?v163) rfl (by kernel_rfl) (by kernel_rfl) (by kernel_rfl) (fun _ _ _ h => h) (Or.inl ⟨by rfl, ?hy163⟩) hH ?rest163
                case hy163 => (intro w hSw; (try dsimp only at hSw); obtain ⟨f0, f1, f2, f3⟩ := SB.out w hSw; go_simp; try with_reducible rfl)
                try simp only [Act.put, List.setIfInBounds_toArray, List.set_cons_zero, List.set_cons_succ, List.getElem_toArray, List.getElem_cons_zero, List.getElem_cons_succ]
                refine wpAnyH_ready (rs := [11]) (by kernel_rfl) (by simp) ?_
                refine AllReadyH.cons rfl (fun K hK => ?_) AllReadyH.nil
                go_simp
                go_at_call 20
                with_reducible refine (HW _ hH).out.mono ?_
                rintro e wq164 ⟨rfl, bq164⟩
                go_wp2_with fail
                refine hK.out _ _ (hH.trans (bq164.mono hH.size)) (fun hH2 => ?_)
                clear hK K hH
                have hH := hH2
                clear hH2
                try simp only [Act.put, List.setIfInBounds_toArray, List.set_cons_zero, List.set_cons_succ, List.getElem_toArray, List.getElem_cons_zero, List.getElem_cons_succ]
                refine wpAnyH_take (i := 12) (v := ?v165) rfl (by kernel_rfl) (by kernel_rfl) (by kernel_rfl) (fun _ _ _ h => h) (Or.inl ⟨by rfl, ?hy165⟩) hH ?rest165
                case hy165 => (intro w hSw; (try dsimp only at hSw); go_simp; try with_reducible rfl)
                try simp only [Act.put, List.setIfInBounds_toArray, List.set_cons_zero, List.set_cons_succ, List.getElem_toArray, List.getElem_cons_zero, List.getElem_cons_succ]
                refine wpAnyH_take (i := 13) (v := ?v166) rfl (by kernel_rfl) (by kernel_rfl) (by kernel_rfl) (fun _ _ _ h => h) (Or.inl ⟨by rfl, ?hy166⟩) hH ?rest166
                case hy166 => (intro w hSw; (try dsimp only at hSw); go_simp; try with_reducible rfl)
                try simp only [Act.put, List.setIfInBounds_toArray, List.set_cons_zero, List.set_cons_succ, List.getElem_toArray, List.getElem_cons_zero, List.getElem_cons_succ]
                refine wpAnyH_done (by kernel_rfl) ?_ _
                have HBr := Lib.hid (hB.out.trans (hH.mono hB.out.size))
                have HQ2 : Hid (wv = (l.take (j + 1)).any fun n => wa n (xb, xs)) := by
                  show _ = _
                  rw [HQ.out, ← hb.out, Bool.false_or]
                clear HW SB BD hB hH HQ hb
                go_wp2
                go_roundg (l.length - (j + 1))
                case measure => omega
                case rel => exact ⟨j + 1, wv, by omega, rfl, by go_num, HQ2.out, HBr.out⟩
              · go_wp2_with fail
                refine wp_region_held_drew (S := fun v => Below wr.heap.size wr v) (by kernel_rfl) BD.out (fun hH => ?_)
                refine wpAnyH_take (i := 0) (v := ?v167) rfl (by kernel_rfl) (by kernel_rfl) (by kernel_rfl) (fun _ _ _ h => h) (Or.inl ⟨by rfl, ?hy167⟩) hH ?rest167
                case hy167 => (intro w hSw; (try dsimp only at hSw); go_simp; try with_reducible rfl)
                try simp only [Act.put, List.setIfInBounds_toArray, List.set_cons_zero, List.set_cons_succ, List.getElem_toArray, List.getElem_cons_zero]
                refine wpAnyH_take (i := 1) (v := ?v168) rfl (by kernel_rfl) (by kernel_rfl) (by kernel_rfl) (fun _ _ _ h => h) (Or.inl ⟨by rfl, ?hy168⟩) hH ?rest168
                case hy168 => (intro w hSw; (try dsimp only at hSw); go_simp; try with_reducible rfl)
                try simp only [Act.put, List.setIfInBounds_toArray, List.set_cons_zero, List.set_cons_succ, List.getElem_toArray, List.getElem_cons_zero, List.getElem_cons_succ]
                refine wpAnyH_take (i := 2) (v := undef) rfl (by kernel_rfl) (by kernel_rfl) (by kernel_rfl) (fun _ _ _ h => h) (Or.inr ⟨by rfl, rfl⟩) hH ?rest169
                try simp only [Act.put, List.setIfInBounds_toArray, List.set_cons_zero, List.set_cons_succ, List.getElem_toArray, List.getElem_cons_zero, List.getElem_cons_succ]
                refine wpAnyH_take (i := 3) (v := undef) rfl (by kernel_rfl) (by kernel_rfl) (by kernel_rfl) (fun _ _ _ h => h) (Or.inr ⟨by rfl, rfl⟩) hH ?rest170
                try simp only [Act.put, List.setIfInBounds_toArray, List.set_cons_zero, List.set_cons_succ, List.getElem_toArray, List.getElem_cons_zero, List.getElem_cons_succ]
                refine wpAnyH_take (i := 7) (v := undef) rfl (by kernel_rfl) (by kernel_rfl) (by kernel_rfl) (fun _ _ _ h => h) (Or.inr ⟨by rfl, rfl⟩) hH ?rest171
                try simp only [Act.put, List.setIfInBounds_toArray, List.set_cons_zero, List.set_cons_succ, List.getElem_toArray, List.getElem_cons_zero, List.getElem_cons_succ]
                refine wpAnyH_take (i := 8) (v := undef) rfl (by kernel_rfl) (by kernel_rfl) (by kernel_rfl) (fun _ _ _ h => h) (Or.inr ⟨by rfl, rfl⟩) hH ?rest172
                try simp only [Act.put, List.setIfInBounds_toArray, List.set_cons_zero, List.set_cons_succ, List.getElem_toArray, List.getElem_cons_zero, List.getElem_cons_succ]
                refine wpAnyH_take (i := 4) (v := undef) rfl (by kernel_rfl) (by kernel_rfl) (by kernel_rfl) (fun _ _ _ h => h) (Or.inr ⟨by rfl, rfl⟩) hH ?rest173
                try simp only [Act.put, List.setIfInBounds_toArray, List.set_cons_zero, List.set_cons_succ, List.getElem_toArray, List.getElem_cons_zero, List.getElem_cons_succ]
                refine wpAnyH_take (i := 9) (v := undef) rfl (by kernel_rfl) (by kernel_rfl) (by kernel_rfl) (fun _ _ _ h => h) (Or.inr ⟨by rfl, rfl⟩) hH ?rest174
                try simp only [Act.put, List.setIfInBounds_toArray, List.set_cons_zero, List.set_cons_succ, List.getElem_toArray, List.getElem_cons_zero, List.getElem_cons_succ]
                refine wpAnyH_take (i := 5) (v := undef) rfl (by kernel_rfl) (by kernel_rfl) (by kernel_rfl) (fun _ _ _ h => h) (Or.inr ⟨by rfl, rfl⟩) hH ?rest175
                try simp only [Act.put, List.setIfInBounds_toArray, List.set_cons_zero, List.set_cons_succ, List.getElem_toArray, List.getElem_cons_zero, List.getElem_cons_succ]
                refine wpAnyH_take (i := 10) (v := undef) rfl (by kernel_rfl) (by kernel_rfl) (by kernel_rfl) (fun _ _ _ h => h) (Or.inr ⟨by rfl, rfl⟩) hH ?rest176
                try simp only [Act.put, List.setIfInBounds_toArray, List.set_cons_zero, List.set_cons_succ, List.getElem_toArray, List.getElem_cons_zero, List.getElem_cons_succ]
                refine wpAnyH_take (i := 6) (v := undef) rfl (by kernel_rfl) (by kernel_rfl) (by kernel_rfl) (fun _ _ _ h => h) (Or.inr ⟨by rfl, rfl⟩) hH ?rest177
                try simp only [Act.put, List.setIfInBounds_toArray, List.set_cons_zero, List.set_cons_succ, List.getElem_toArray, List.getElem_cons_zero, List.getElem_cons_succ]
                refine wpAnyH_take (i := 11) (v := undef) rfl (by kernel_rfl) (by kernel_rfl) (by kernel_rfl) (fun _ _ _ h => h) (Or.inr ⟨by rfl, rfl⟩) hH ?rest178
                try simp only [Act.put, List.setIfInBounds_toArray, List.set_cons_zero, List.set_cons_succ, List.getElem_toArray, List.getElem_cons_zero, List.getElem_cons_succ]
                refine wpAnyH_take (i := 12) (v := ?v179) rfl (by kernel_rfl) (by kernel_rfl) (by kernel_rfl) (fun _ _ _ h => h) (Or.inl ⟨by rfl, ?hy179⟩) hH ?rest179
                case hy179 => (intro w hSw; (try dsimp only at hSw); go_simp; try with_reducible rfl)
                try simp only [Act.put, List.setIfInBounds_toArray, List.set_cons_zero, List.set_cons_succ, List.getElem_toArray, List.getElem_cons_zero, List.getElem_cons_succ]
                refine wpAnyH_take (i := 13) (v := ?v180) rfl (by kernel_rfl) (by kernel_rfl) (by kernel_rfl) (fun _ _ _ h => h) (Or.inl ⟨by rfl, ?hy180⟩) hH ?rest180
                case hy180 => (intro w hSw; (try dsimp only at hSw); go_simp; try with_reducible rfl)
                try simp only [Act.put, List.setIfInBounds_toArray, List.set_cons_zero, List.set_cons_succ, List.getElem_toArray, List.getElem_cons_zero, List.getElem_cons_succ]
                refine wpAnyH_done (by kernel_rfl) ?_ _
                have HBr := Lib.hid (hB.out.trans (hH.mono hB.out.size))
                have HQ2 : Hid (true = (l.take (j + 1)).any fun n => wa n (xb, xs)) := by
                  show _ = _
                  rw [HQ.out, ← hb.out, Bool.true_or]
                clear HW SB BD hB hH HQ hb
                go_wp2
                go_roundg (l.length - (j + 1))
                case measure => omega
                case rel => exact ⟨j + 1, true, by omega, rfl, by go_num, HQ2.out, HBr.out⟩
            · obtain rfl : j = l.length := by omega
              have hbt : bo = true := by
                rw [hb.out, List.take_length]
                obtain ⟨n, hn, hw⟩ := HEx.out
                exact List.any_eq_true.2 ⟨n, hn, hw⟩
              subst hbt
              clear hb
              go_wp2
              go_roundg (mm.length - (k + 1))
              case measure => omega
              case rel => exact ⟨k + 1, by omega, by go_num, hB.out⟩
        · have heq1 : (xb == pb) = false := by simpa using heq
          clear heq HI
          go_wp2_with fail
          refine wp_region_held_drew (S := fun v => Below wr.heap.size wr v) (by kernel_rfl) BD.out (fun hH => ?_)
          refine wpAnyH_take (i := 0) (v := ?v181) rfl (by kernel_rfl) (by kernel_rfl) (by kernel_rfl) (fun _ _ _ h => h) (Or.inl ⟨by rfl, ?hy181⟩) hH ?rest181
          case hy181 => (intro w hSw; (try dsimp only at hSw); go_simp; try with_reducible rfl)
          try simp only [Act.put, List.setIfInBounds_toArray, List.set_cons_zero, List.set_cons_succ, List.getElem_toArray, List.getElem_cons_zero]
          refine wpAnyH_take (i := 1) (v := ?v182) rfl (by kernel_rfl) (by kernel_rfl) (by kernel_rfl) (fun _ _ _ h => h) (Or.inl ⟨by rfl, ?hy182⟩) hH ?rest182
          case hy182 => (intro w hSw; (try dsimp only at hSw); go_simp; try with_reducible rfl)
          try simp only [Act.put, List.setIfInBounds_toArray, List.set_cons_zero, List.set_cons_succ, List.getElem_toArray, List.getElem_cons_zero, List.getElem_cons_succ]
          refine wpAnyH_take (i := 2) (v := ?v183) rfl (by kernel_rfl) (by kernel_rfl) (by kernel_rfl) (fun _ _ _ h => h) (Or.inl ⟨by rfl, ?hy183⟩) hH ?rest183
          case hy183 => (intro w hSw; (try dsimp only at hSw); go_simp; try with_reducible rfl)
          try simp only [Act.put, List.setIfInBounds_toArray, List.set_cons_zero, List.set_cons_succ, List.getElem_toArray, List.getElem_cons_zero, List.getElem_cons_succ]
          refine wpAnyH_take (i := 3) (v := ?v184) rfl (by kernel_rfl) (by kernel_rfl) (by kernel_rfl) (fun _ _ _ h => h) (Or.inl ⟨by rfl, ?hy184⟩) hH ?rest184
          case hy184 => (intro w hSw; (try dsimp only at hSw); go_simp; try with_reducible rfl)
          try simp only [Act.put, List.setIfInBounds_toArray, List.set_cons_zero, List.set_cons_succ, List.getElem_toArray, List.getElem_cons_zero, List.getElem_cons_succ]
          refine wpAnyH_take (i := 4) (v := ?v185) rfl (by kernel_rfl) (by kernel_rfl) (by kernel_rfl) (fun _ _ _ h => h) (Or.inl ⟨by rfl, ?hy185⟩) hH ?rest185
          case hy185 => (intro w hSw; (try dsimp only at hSw); obtain ⟨f0, f1, f2, f3⟩ := SB.out w hSw; go_simp; try with_reducible rfl)
          try simp only [Act.put, List.setIfInBounds_toArray, List.set_cons_zero, List.set_cons_succ, List.getElem_toArray, List.getElem_cons_zero, List.getElem_cons_succ]
          refine wpAnyH_ready (rs := [5]) (by kernel_rfl) (by simp) ?_
          refine AllReadyH.cons rfl (fun K hK => ?_) AllReadyH.nil
          go_simp
          go_at_call 18
          with_reducible refine (HP1 _ hH).out.mono ?_
          rintro e wq186 ⟨rfl, bq186⟩
          go_wp2_with fail
          refine hK.out _ _ (hH.trans (bq186.mono hH.size)) (fun hH2 => ?_)
          clear hK K hH
          have hH := hH2
          clear hH2
          try simp only [Act.put, List.setIfInBounds_toArray, List.set_cons_zero, List.set_cons_succ, List.getElem_toArray, List.getElem_cons_zero, List.getElem_cons_succ]
          refine wpAnyH_take (i := 6) (v := ?v187) rfl (by kernel_rfl) (by kernel_rfl) (by kernel_rfl) (fun _ _ _ h => h) (Or.inl ⟨by rfl, ?hy187⟩) hH ?rest187
          case hy187 => (intro w hSw; (try dsimp only at hSw); go_simp; try with_reducible rfl)
          try simp only [Act.put, List.setIfInBounds_toArray, List.set_cons_zero, List.set_cons_succ, List.getElem_toArray, List.getElem_cons_zero, List.getElem_cons_succ]
          refine wpAnyH_take (i := 7) (v := ?v188) rfl (by kernel_rfl) (by kernel_rfl) (by kernel_rfl) (fun _ _ _ h => h) (Or.inl ⟨by rfl, ?hy188⟩) hH ?rest188
          case hy188 => (intro w hSw; (try dsimp only at hSw); go_simp; try with_reducible rfl)
          try simp only [Act.put, List.setIfInBounds_toArray, List.set_cons_zero, List.set_cons_succ, List.getElem_toArray, List.getElem_cons_zero, List.getElem_cons_succ]
          refine wpAnyH_take (i := 8) (v := ?v189) rfl (by kernel_rfl) (by kernel_rfl) (by kernel_rfl) (fun _ _ _ h => h) (Or.inl ⟨by rfl, ?hy189⟩) hH ?rest189
          case hy189 => (intro w hSw; (try dsimp only at hSw); go_simp; try with_reducible rfl)
          try simp only [Act.put, List.setIfInBounds_toArray, List.set_cons_zero, List.set_cons_succ, List.getElem_toArray, List.getElem_cons_zero, List.getElem_cons_succ]
          refine wpAnyH_take (i := 9) (v := ?v190) rfl (by kernel_rfl) (by kernel_rfl) (by kernel_rfl) (fun _ _ _ h => h) (Or.inl ⟨by rfl, ?hy190⟩) hH ?rest190
          case hy190 => (intro w hSw; (try dsimp only at hSw); go_simp; try with_reducible rfl)
          try simp only [Act.put, List.setIfInBounds_toArray, List.set_cons_zero, List.set_cons_succ, List.getElem_toArray, List.getElem_cons_zero, List.getElem_cons_succ]
          refine wpAnyH_take (i := 10) (v := ?v191) rfl (by kernel_rfl) (by kernel_rfl) (by kernel_rfl) (fun _ _ _ h => h) (Or.inl ⟨by rfl, ?hy191⟩) hH ?rest191
          case hy191 => (intro w hSw; (try dsimp only at hSw); go_simp; try with_reducible rfl)
          try simp only [Act.put, List.setIfInBounds_toArray, List.set_cons_zero, List.set_cons_succ, List.getElem_toArray, List.getElem_cons_zero, List.getElem_cons_succ]
          refine wpAnyH_take (i := 11) (v := ?v192) rfl (by kernel_rfl) (by kernel_rfl) (by kernel_rfl) (fun _ _ _ h => h) (Or.inl ⟨by rfl, ?hy192⟩) hH ?rest192
          case hy192 => (intro w hSw; (try dsimp only at hSw); go_simp; try with_reducible rfl)
          try simp only [Act.put, List.setIfInBounds_toArray, List.set_cons_zero, List.set_cons_succ, List.getElem_toArray, List.getElem_cons_zero, List.getElem_cons_succ]
          refine wpAnyH_take (i := 12) (v := ?v193) rfl (by kernel_rfl) (by kernel_rfl) (by kernel_rfl) (fun _ _ _ h => h) (Or.inl ⟨by rfl, ?hy193⟩) hH ?rest193
          case hy193 => (intro w hSw; (try dsimp only at hSw); obtain ⟨f0, f1, f2, f3⟩ := SB.out w hSw; go_simp; try with_reducible rfl)
          try simp only [Act.put, List.setIfInBounds_toArray, List.set_cons_zero, List.set_cons_succ, List.getElem_toArray, List.getElem_cons_zero, List.getElem_cons_succ]
          refine wpAnyH_ready (rs := [13]) (by kernel_rfl) (by simp) ?_
          refine AllReadyH.cons rfl (fun K hK => ?_) AllReadyH.nil
          go_simp
          go_at_call 18
          with_reducible refine (HP2 _ hH).out.mono ?_
          rintro e wq194 ⟨rfl, bq194⟩
          go_wp2_with fail
          refine hK.out _ _ (hH.trans (bq194.mono hH.size)) (fun hH2 => ?_)
          clear hK K hH
          have hH := hH2
          clear hH2
          try simp only [Act.put, List.setIfInBounds_toArray, List.set_cons_zero, List.set_cons_succ, List.getElem_toArray, List.getElem_cons_zero, List.getElem_cons_succ]
          refine wpAnyH_take (i := 14) (v := ?v195) rfl (by kernel_rfl) (by kernel_rfl) (by kernel_rfl) (fun _ _ _ h => h) (Or.inl ⟨by rfl, ?hy195⟩) hH ?rest195
          case hy195 => (intro w hSw; (try dsimp only at hSw); go_simp; try with_reducible rfl)
          try simp only [Act.put, List.setIfInBounds_toArray, List.set_cons_zero, List.set_cons_succ, List.getElem_toArray, List.getElem_cons_zero, List.getElem_cons_succ]
          refine wpAnyH_take (i := 15) (v := ?v196) rfl (by kernel_rfl) (by kernel_rfl) (by kernel_rfl) (fun _ _ _ h => h) (Or.inl ⟨by rfl, ?hy196⟩) hH ?rest196
          case hy196 => (intro w hSw; (try dsimp only at hSw); go_simp; try with_reducible rfl)
          try simp only [Act.put, List.setIfInBounds_toArray, List.set_cons_zero, List.set_cons_succ, List.getElem_toArray, List.getElem_cons_zero, List.getElem_cons_succ]
          refine wpAnyH_take (i := 16) (v := ?v197) rfl (by kernel_rfl) (by kernel_rfl) (by kernel_rfl) (fun _ _ _ h => h) (Or.inl ⟨by rfl, ?hy197⟩) hH ?rest197
          case hy197 => (intro w hSw; (try dsimp only at hSw); go_simp; try with_reducible rfl)
          try simp only [Act.put, List.setIfInBounds_toArray, List.set_cons_zero, List.set_cons_succ, List.getElem_toArray, List.getElem_cons_zero, List.getElem_cons_succ]
          refine wpAnyH_take (i := 17) (v := ?v198) rfl (by kernel_rfl) (by kernel_rfl) (by kernel_rfl) (fun _ _ _ h => h) (Or.inl ⟨by rfl, ?hy198⟩) hH ?rest198
          case hy198 => (intro w hSw; (try dsimp only at hSw); go_simp; try with_reducible rfl)
          try simp only [Act.put, List.setIfInBounds_toArray, List.set_cons_zero, List.set_cons_succ, List.getElem_toArray, List.getElem_cons_zero, List.getElem_cons_succ]
          refine wpAnyH_take (i := 18) (v := ?v199) rfl (by kernel_rfl) (by kernel_rfl) (by kernel_rfl) (fun _ _ _ h => h) (Or.inl ⟨by rfl, ?hy199⟩) hH ?rest199
          case hy199 => (intro w hSw; (try dsimp only at hSw); go_simp; try with_reducible rfl)
          try simp only [Act.put, List.setIfInBounds_toArray, List.set_cons_zero, List.set_cons_succ, List.getElem_toArray, List.getElem_cons_zero, List.getElem_cons_succ]
          refine wpAnyH_take (i := 19) (v := ?v200) rfl (by kernel_rfl) (by kernel_rfl) (by kernel_rfl) (fun _ _ _ h => h) (Or.inl ⟨by rfl, ?hy200⟩) hH ?rest200
          case hy200 => (intro w hSw; (try dsimp only at hSw); go_simp; try with_reducible rfl)
          try simp only [Act.put, List.setIfInBounds_toArray, List.set_cons_zero, List.set_cons_succ, List.getElem_toArray, List.getElem_cons_zero, List.getElem_cons_succ]
          refine wpAnyH_take (i := 20) (v := ?v201) rfl (by kernel_rfl) (by kernel_rfl) (by kernel_rfl) (fun _ _ _ h => h) (Or.inl ⟨by rfl, ?hy201⟩) hH ?rest201
          case hy201 => (intro w hSw; (try dsimp only at hSw); go_simp; try with_reducible rfl)
          try simp only [Act.put, List.setIfInBounds_toArray, List.set_cons_zero, List.set_cons_succ, List.getElem_toArray, List.getElem_cons_zero, List.getElem_cons_succ]
          refine wpAnyH_take (i := 21) (v := ?v202) rfl (by kernel_rfl) (by kernel_rfl) (by kernel_rfl) (fun _ _ _ h => h) (Or.inl ⟨by rfl, ?hy202⟩) hH ?rest202
          case hy202 => (intro w hSw; (try dsimp only at hSw); go_simp; try with_reducible rfl)
          try simp only [Act.put, List.setIfInBounds_toArray, List.set_cons_zero, List.set_cons_succ, List.getElem_toArray, List.getElem_cons_zero, List.getElem_cons_succ]
          refine wpAnyH_take (i := 25) (v := ?v203) rfl (by kernel_rfl) (by kernel_rfl) (by kernel_rfl) (fun _ _ _ h => h) (Or.inl ⟨by rfl, ?hy203⟩) hH ?rest203
          case hy203 => (intro w hSw; (try dsimp only at hSw); go_simp; try with_reducible rfl)
          try simp only [Act.put, List.setIfInBounds_toArray, List.set_cons_zero, List.set_cons_succ, List.getElem_toArray, List.getElem_cons_zero, List.getElem_cons_succ]
          refine wpAnyH_take (i := 26) (v := ?v204) rfl (by kernel_rfl) (by kernel_rfl) (by kernel_rfl) (fun _ _ _ h => h) (Or.inl ⟨by rfl, ?hy204⟩) hH ?rest204
          case hy204 => (intro w hSw; (try dsimp only at hSw); go_simp; try with_reducible rfl)
          try simp only [Act.put, List.setIfInBounds_toArray, List.set_cons_zero, List.set_cons_succ, List.getElem_toArray, List.getElem_cons_zero, List.getElem_cons_succ]
          refine wpAnyH_take (i := 22) (v := ?v205) rfl (by kernel_rfl) (by kernel_rfl) (by kernel_rfl) (fun _ _ _ h => h) (Or.inl ⟨by rfl, ?hy205⟩) hH ?rest205
          case hy205 => (intro w hSw; (try dsimp only at hSw); go_simp; try with_reducible rfl)
          try simp only [Act.put, List.setIfInBounds_toArray, List.set_cons_zero, List.set_cons_succ, List.getElem_toArray, List.getElem_cons_zero, List.getElem_cons_succ]
          refine wpAnyH_take (i := 27) (v := ?v206) rfl (by kernel_rfl) (by kernel_rfl) (by kernel_rfl) (fun _ _ _ h => h) (Or.inl ⟨by rfl, ?hy206⟩) hH ?rest206
          case hy206 => (intro w hSw; (try dsimp only at hSw); go_simp; try with_reducible rfl)
          try simp only [Act.put, List.setIfInBounds_toArray, List.set_cons_zero, List.set_cons_succ, List.getElem_toArray, List.getElem_cons_zero, List.getElem_cons_succ]
          refine wpAnyH_take (i := 23) (v := ?v207) rfl (by kernel_rfl) (by kernel_rfl) (by kernel_rfl) (fun _ _ _ h => h) (Or.inl ⟨by rfl, ?hy207⟩) hH ?rest207
          case hy207 => (intro w hSw; (try dsimp only at hSw); go_simp; try with_reducible rfl)
          try simp only [Act.put, List.setIfInBounds_toArray, List.set_cons_zero, List.set_cons_succ, List.getElem_toArray, List.getElem_cons_zero, List.getElem_cons_succ]
          refine wpAnyH_take (i := 28) (v := ?v208) rfl (by kernel_rfl) (by kernel_rfl) (by kernel_rfl) (fun _ _ _ h => h) (Or.inl ⟨by rfl, ?hy208⟩) hH ?rest208
          case hy208 => (intro w hSw; (try dsimp only at hSw); go_simp; try with_reducible rfl)
          try simp only [Act.put, List.setIfInBounds_toArray, List.set_cons_zero, List.set_cons_succ, List.getElem_toArray, List.getElem_cons_zero, List.getElem_cons_succ]
          refine wpAnyH_take (i := 24) (v := ?v209) rfl (by kernel_rfl) (by kernel_rfl) (by kernel_rfl) (fun _ _ _ h => h) (Or.inl ⟨by rfl, ?hy209⟩) hH ?rest209
          case hy209 => (intro w hSw; (try dsimp only at hSw); obtain ⟨f0, f1, f2, f3⟩ := SB.out w hSw; go_simp; try with_reducible rfl)
          try simp only [Act.put, List.setIfInBounds_toArray, List.set_cons_zero, List.set_cons_succ, List.getElem_toArray, List.getElem_cons_zero, List.getElem_cons_succ]
          refine wpAnyH_take (i := 29) (v := ?v210) rfl (by kernel_rfl) (by kernel_rfl) (by kernel_rfl) (fun _ _ _ h => h) (Or.inl ⟨by rfl, ?hy210⟩) hH ?rest210
          case hy210 => (intro w hSw; (try dsimp only at hSw); go_simp; try with_reducible rfl)
          try simp only [Act.put, List.setIfInBounds_toArray, List.set_cons_zero, List.set_cons_succ, List.getElem_toArray, List.getElem_cons_zero, List.getElem_cons_succ]
          refine wpAnyH_take (i := 30) (v := ?v211) rfl (by kernel_rfl) (by kernel_rfl) (by kernel_rfl) (fun _ _ _ h => h) (Or.inl ⟨by rfl, ?hy211⟩) hH ?rest211
          case hy211 => (intro w hSw; (try dsimp only at hSw); obtain ⟨f0, f1, f2, f3⟩ := SB.out w hSw; go_simp; try with_reducible rfl)
          try simp only [Act.put, List.setIfInBounds_toArray, List.set_cons_zero, List.set_cons_succ, List.getElem_toArray, List.getElem_cons_zero, List.getElem_cons_succ]
          refine wpAnyH_take (i := 31) (v := ?v212) rfl (by kernel_rfl) (by kernel_rfl) (by kernel_rfl) (fun _ _ _ h => h) (Or.inl ⟨by rfl, ?hy212⟩) hH ?rest212
          case hy212 => (intro w hSw; (try dsimp only at hSw); go_simp; try with_reducible rfl)
          try simp only [Act.put, List.setIfInBounds_toArray, List.set_cons_zero, List.set_cons_succ, List.getElem_toArray, List.getElem_cons_zero, List.getElem_cons_succ]
          refine wpAnyH_take (i := 32) (v := ?v213) rfl (by kernel_rfl) (by kernel_rfl) (by kernel_rfl) (fun _ _ _ h => h) (Or.inl ⟨by rfl, ?hy213⟩) hH ?rest213
          case hy213 => (intro w hSw; (try dsimp only at hSw); go_simp; try with_reducible rfl)
          try simp only [Act.put, List.setIfInBounds_toArray, List.set_cons_zero, List.set_cons_succ, List.getElem_toArray, List.getElem_cons_zero, List.getElem_cons_succ]
          refine wpAnyH_take (i := 33) (v := ?v214) rfl (by kernel_rfl) (by kernel_rfl) (by kernel_rfl) (fun _ _ _ h => h) (Or.inl ⟨by rfl, ?hy214⟩) hH ?rest214
          case hy214 => (intro w hSw; (try dsimp only at hSw); go_simp; try with_reducible rfl)
          try simp only [Act.put, List.setIfInBounds_toArray, List.set_cons_zero, List.set_cons_succ, List.getElem_toArray, List.getElem_cons_zero, List.getElem_cons_succ]
          refine wpAnyH_take (i := 34) (v := ?v215) rfl (by kernel_rfl) (by kernel_rfl) (by kernel_rfl) (fun _ _ _ h => h) (Or.inl ⟨by rfl, ?hy215⟩) hH ?rest215
          case hy215 => (intro w hSw; (try dsimp only at hSw); go_simp; try with_reducible rfl)
          try simp only [Act.put, List.setIfInBounds_toArray, List.set_cons_zero, List.set_cons_succ, List.getElem_toArray, List.getElem_cons_zero, List.getElem_cons_succ]
          refine wpAnyH_take (i := 38) (v := ?v216) rfl (by kernel_rfl) (by kernel_rfl) (by kernel_rfl) (fun _ _ _ h => h) (Or.inl ⟨by rfl, ?hy216⟩) hH ?rest216
          case hy216 => (intro w hSw; (try dsimp only at hSw); go_simp; try with_reducible rfl)
          try simp only [Act.put, List.setIfInBounds_toArray, List.set_cons_zero, List.set_cons_succ, List.getElem_toArray, List.getElem_cons_zero, List.getElem_cons_succ]
          refine wpAnyH_take (i := 39) (v := ?v217) rfl (by kernel_rfl) (by kernel_rfl) (by kernel_rfl) (fun _ _ _ h => h) (Or.inl ⟨by rfl, ?hy217⟩) hH ?rest217
          case hy217 => (intro w hSw; (try dsimp only at hSw); go_simp; try with_reducible rfl)
          try simp only [Act.put, List.setIfInBounds_toArray, List.set_cons_zero, List.set_cons_succ, List.getElem_toArray, List.getElem_cons_zero, List.getElem_cons_succ]
          refine wpAnyH_take (i := 35) (v := ?v218) rfl (by kernel_rfl) (by kernel_rfl) (by kernel_rfl) (fun _ _ _ h => h) (Or.inl ⟨by rfl, ?hy218⟩) hH ?rest218
          case hy218 => (intro w hSw; (try dsimp only at hSw); go_simp; try with_reducible rfl)
          try simp only [Act.put, List.setIfInBounds_toArray, List.set_cons_zero, List.set_cons_succ, List.getElem_toArray, List.getElem_cons_zero, List.getElem_cons_succ]
          refine wpAnyH_take (i := 40) (v := ?v219) rfl (by kernel_rfl) (by kernel_rfl) (by kernel_rfl) (fun _ _ _ h => h) (Or.inl ⟨by rfl, ?hy219⟩) hH ?rest219
          case hy219 => (intro w hSw; (try dsimp only at hSw); go_simp; try with_reducible rfl)
          try simp only [Act.put, List.setIfInBounds_toArray, List.set_cons_zero, List.set_cons_succ, List.getElem_toArray, List.getElem_cons_zero, List.getElem_cons_succ]
          refine wpAnyH_take (i := 36) (v := ?v220) rfl (by kernel_rfl) (by kernel_rfl) (by kernel_rfl) (fun _ _ _ h => h) (Or.inl ⟨by rfl, ?hy220⟩) hH ?rest220
          case hy220 => (intro w hSw; (try dsimp only at hSw); go_simp; try with_reducible rfl)
          try simp only [Act.put, List.setIfInBounds_toArray, List.set_cons_zero, List.set_cons_succ, List.getElem_toArray, List.getElem_cons_zero, List.getElem_cons_succ]
          refine wpAnyH_take (i := 41) (v := ?v221) rfl (by kernel_rfl) (by kernel_rfl) (by kernel_rfl) (fun _ _ _ h => h) (Or.inl ⟨by rfl, ?hy221⟩) hH ?rest221
          case hy221 => (intro w hSw; (try dsimp only at hSw); go_simp; try with_reducible rfl)
          try simp only [Act.put, List.setIfInBounds_toArray, List.set_cons_zero, List.set_cons_succ, List.getElem_toArray, List.getElem_cons_zero, List.getElem_cons_succ]
          refine wpAnyH_take (i := 37) (v := ?v222) rfl (by kernel_rfl) (by kernel_rfl) (by kernel_rfl) (fun _ _ _ h => h) (Or.inl ⟨by rfl, ?hy222⟩) hH ?rest222
          case hy222 => (intro w hSw; (try dsimp only at hSw); obtain ⟨f0, f1, f2, f3⟩ := SB.out w hSw; go_simp; try with_reducible rfl)
          try simp only [Act.put, List.setIfInBounds_toArray, List.set_cons_zero, List.set_cons_succ, List.getElem_toArray, List.getElem_cons_zero, List.getElem_cons_succ]
          refine wpAnyH_take (i := 42) (v := ?v223) rfl (by kernel_rfl) (by kernel_rfl) (by kernel_rfl) (fun _ _ _ h => h) (Or.inl ⟨by rfl, ?hy223⟩) hH ?rest223
          case hy223 => (intro w hSw; (try dsimp only at hSw); go_simp; try with_reducible rfl)
          try simp only [Act.put, List.setIfInBounds_toArray, List.set_cons_zero, List.set_cons_succ, List.getElem_toArray, List.getElem_cons_zero, List.getElem_cons_succ]
          refine wpAnyH_take (i := 43) (v := ?v224) rfl (by kernel_rfl) (by kernel_rfl) (by kernel_rfl) (fun _ _ _ h => h) (Or.inl ⟨by rfl, ?hy224⟩) hH ?rest224
          case hy224 => (intro w hSw; (try dsimp only at hSw); obtain ⟨f0, f1, f2, f3⟩ := SB.out w hSw; go_simp; try with_reducible rfl)
          try simp only [Act.put, List.setIfInBounds_toArray, List.set_cons_zero, List.set_cons_succ, List.getElem_toArray, List.getElem_cons_zero, List.getElem_cons_succ]
          refine wpAnyH_take (i := 44) (v := ?v225) rfl (by kernel_rfl) (by kernel_rfl) (by kernel_rfl) (fun _ _ _ h => h) (Or.inl ⟨by rfl, ?hy225⟩) hH ?rest225
          case hy225 => (intro w hSw; (try dsimp only at hSw); go_simp; try with_reducible rfl)
          try simp only [Act.put, List.setIfInBounds_toArray, List.set_cons_zero, List.set_cons_succ, List.getElem_toArray, List.getElem_cons_zero, List.getElem_cons_succ]
          refine wpAnyH_take (i := 45) (v := ?v226) rfl (by kernel_rfl) (by kernel_rfl) (by kernel_rfl) (fun _ _ _ h => h) (Or.inl ⟨by rfl, ?hy226⟩) hH ?rest226
          case hy226 => (intro w hSw; (try dsimp only at hSw); go_simp; try with_reducible rfl)
          try simp only [Act.put, List.setIfInBounds_toArray, List.set_cons_zero, List.set_cons_succ, List.getElem_toArray, List.getElem_cons_zero, List.getElem_cons_succ]
          refine wpAnyH_take (i := 46) (v := undef) rfl (by kernel_rfl) (by kernel_rfl) (by kernel_rfl) (fun _ _ _ h => h) (Or.inr ⟨by rfl, rfl⟩) hH ?rest227
          try simp only [Act.put, List.setIfInBounds_toArray, List.set_cons_zero, List.set_cons_succ, List.getElem_toArray, List.getElem_cons_zero, List.getElem_cons_succ]
          refine wpAnyH_take (i := 47) (v := undef) rfl (by kernel_rfl) (by kernel_rfl) (by kernel_rfl) (fun _ _ _ h => h) (Or.inr ⟨by rfl, rfl⟩) hH ?rest228
          try simp only [Act.put, List.setIfInBounds_toArray, List.set_cons_zero, List.set_cons_succ, List.getElem_toArray, List.getElem_cons_zero, List.getElem_cons_succ]
          refine wpAnyH_take (i := 51) (v := undef) rfl (by kernel_rfl) (by kernel_rfl) (by kernel_rfl) (fun _ _ _ h => h) (Or.inr ⟨by rfl, rfl⟩) hH ?rest229
          try simp only [Act.put, List.setIfInBounds_toArray, List.set_cons_zero, List.set_cons_succ, List.getElem_toArray, List.getElem_cons_zero, List.getElem_cons_succ]
          refine wpAnyH_take (i := 52) (v := undef) rfl (by kernel_rfl) (by kernel_rfl) (by kernel_rfl) (fun _ _ _ h => h) (Or.inr ⟨by rfl, rfl⟩) hH ?rest230
          try simp only [Act.put, List.setIfInBounds_toArray, List.set_cons_zero, List.set_cons_succ, List.getElem_toArray, List.getElem_cons_zero, List.getElem_cons_succ]
          refine wpAnyH_take (i := 48) (v := undef) rfl (by kernel_rfl) (by kernel_rfl) (by kernel_rfl) (fun _ _ _ h => h) (Or.inr ⟨by rfl, rfl⟩) hH ?rest231
          try simp only [Act.put, List.setIfInBounds_toArray, List.set_cons_zero, List.set_cons_succ, List.getElem_toArray, List.getElem_cons_zero, List.getElem_cons_succ]
          refine wpAnyH_take (i := 53) (v := undef) rfl (by kernel_rfl) (by kernel_rfl) (by kernel_rfl) (fun _ _ _ h => h) (Or.inr ⟨by rfl, rfl⟩) hH ?rest232
          try simp only [Act.put, List.setIfInBounds_toArray, List.set_cons_zero, List.set_cons_succ, List.getElem_toArray, List.getElem_cons_zero, List.getElem_cons_succ]
          refine wpAnyH_take (i := 49) (v := undef) rfl (by kernel_rfl) (by kernel_rfl) (by kernel_rfl) (fun _ _ _ h => h) (Or.inr ⟨by rfl, rfl⟩) hH ?rest233
          try simp only [Act.put, List.setIfInBounds_toArray, List.set_cons_zero, List.set_cons_succ, List.getElem_toArray, List.getElem_cons_zero, List.getElem_cons_succ]
          refine wpAnyH_take (i := 54) (v := undef) rfl (by kernel_rfl) (by kernel_rfl) (by kernel_rfl) (fun _ _ _ h => h) (Or.inr ⟨by rfl, rfl⟩) hH ?rest234
          try simp only [Act.put, List.setIfInBounds_toArray, List.set_cons_zero, List.set_cons_succ, List.getElem_toArray, List.getElem_cons_zero, List.getElem_cons_succ]
          refine wpAnyH_take (i := 50) (v := undef) rfl (by kernel_rfl) (by kernel_rfl) (by kernel_rfl) (fun _ _ _ h => h) (Or.inr ⟨by rfl, rfl⟩) hH ?rest235
          try simp only [Act.put, List.setIfInBounds_toArray, List.set_cons_zero, List.set_cons_succ, List.getElem_toArray, List.getElem_cons_zero, List.getElem_cons_succ]
          refine wpAnyH_take (i := 55) (v := undef) rfl (by kernel_rfl) (by kernel_rfl) (by kernel_rfl) (fun _ _ _ h => h) (Or.inr ⟨by rfl, rfl⟩) hH ?rest236
          try simp only [Act.put, List.setIfInBounds_toArray, List.set_cons_zero, List.set_cons_succ, List.getElem_toArray, List.getElem_cons_zero, List.getElem_cons_succ]
          refine wpAnyH_take (i := 56) (v := undef) rfl (by kernel_rfl) (by kernel_rfl) (by kernel_rfl) (fun _ _ _ h => h) (Or.inr ⟨by rfl, rfl⟩) hH ?rest237
          try simp only [Act.put, List.setIfInBounds_toArray, List.set_cons_zero, List.set_cons_succ, List.getElem_toArray, List.getElem_cons_zero, List.getElem_cons_succ]
          refine wpAnyH_take (i := 57) (v := undef) rfl (by kernel_rfl) (by kernel_rfl) (by kernel_rfl) (fun _ _ _ h => h) (Or.inr ⟨by rfl, rfl⟩) hH ?rest238
          try simp only [Act.put, List.setIfInBounds_toArray, List.set_cons_zero, List.set_cons_succ, List.getElem_toArray, List.getElem_cons_zero, List.getElem_cons_succ]
          refine wpAnyH_take (i := 58) (v := ?v239) rfl (by kernel_rfl) (by kernel_rfl) (by kernel_rfl) (fun _ _ _ h => h) (Or.inl ⟨by rfl, ?hy239⟩) hH ?rest239
          case hy239 => (intro w hSw; (try dsimp only at hSw); go_simp; try with_reducible rfl)
          try simp only [Act.put, List.setIfInBounds_toArray, List.set_cons_zero, List.set_cons_succ, List.getElem_toArray, List.getElem_cons_zero, List.getElem_cons_succ]
          refine wpAnyH_take (i := 59) (v := ?v240) rfl (by kernel_rfl) (by kernel_rfl) (by kernel_rfl) (fun _ _ _ h => h) (Or.inl ⟨by rfl, ?hy240⟩) hH ?rest240
          case hy240 => (intro w hSw; (try dsimp only at hSw); go_simp; try with_reducible rfl)
          try simp only [Act.put, List.setIfInBounds_toArray, List.set_cons_zero, List.set_cons_succ, List.getElem_toArray, List.getElem_cons_zero, List.getElem_cons_succ]
          refine wpAnyH_take (i := 60) (v := ?v241) rfl (by kernel_rfl) (by kernel_rfl) (by kernel_rfl) (fun _ _ _ h => h) (Or.inl ⟨by rfl, ?hy241⟩) hH ?rest241
          case hy241 => (intro w hSw; (try dsimp only at hSw); go_simp; try with_reducible rfl)
          try simp only [Act.put, List.setIfInBounds_toArray, List.set_cons_zero, List.set_cons_succ, List.getElem_toArray, List.getElem_cons_zero, List.getElem_cons_succ]
          refine wpAnyH_take (i := 61) (v := ?v242) rfl (by kernel_rfl) (by kernel_rfl) (by kernel_rfl) (fun _ _ _ h => h) (Or.inl ⟨by rfl, ?hy242⟩) hH ?rest242
          case hy242 => (intro w hSw; (try dsimp only at hSw); go_simp; try with_reducible rfl)
          try simp only [Act.put, List.setIfInBounds_toArray, List.set_cons_zero, List.set_cons_succ, List.getElem_toArray, List.getElem_cons_zero, List.getElem_cons_succ]
          refine wpAnyH_done (by kernel_rfl) ?_ _
          clear hz1 hz2 heq1 hlt1 hw
          have HBr := Lib.hid (hB.out.trans (hH.mono hB.out.size))
          clear HP1 HP2 SB BD hB hH HIl
          go_wp2
          go_loopg [10, 11] l.length (fun q v t W => ∃ j : Nat, ∃ b : Bool, j + q = l.length ∧ v = .bool b ∧ t = .int .i64 (j : Int) ∧ Hid (b = (l.take j).any fun n => wa n (xb, xs)) ∧ Hid (Below w4.heap.size w4 W))
          case atStart => exact ⟨0, false, by omega, rfl, rfl, rfl, HBr.out⟩
          case round =>
            clear HBr
            obtain ⟨j, bo, hj, rfl, rfl, hb, hB⟩ := hrel
            by_cases hjt : j < l.length
            · have hji : (j : Int) < (l.length : Int) := by omega
              have hj0 : (0 : Int) ≤ (j : Int) := by omega
              have HY := Lib.hid (List.getElem?_eq_getElem hjt)
              have hNw := HNl.out.to hB.out hB.out.size
              obtain ⟨b, off, rfl, hbl, q0, q1, q2, q3⟩ := hNw.at_ HY.out
              obtain ⟨b4, off4, e4, hbl4, m0, m1⟩ := (HM.out.to hB.out hB.out.size).at_ HX.out
              cases e4
              have HQ : Hid (((l.take (j + 1)).any fun n => wa n (xb, xs)) = (((l.take j).any fun n => wa n (xb, xs)) || wa l[j] (xb, xs))) := by
                show _ = _
                rw [← List.take_append_getElem hjt, List.any_append]
                simp
              have HW : ∀ V, Below wr.heap.size wr V → Hid (Calls Tryz.prog 20 #[.agg #[.int .i64 l[j].q, .slice l[j].h l[j].d.length l[j].c], .agg #[.int .i64 xb, .int .i64 xs]] V (At.BoolPost V (wa l[j] (xb, xs)))) := fun V hV =>
                At.waits_any l[j].q xb xs l[j].h l[j].c l[j].d V (((HDl.out _ (List.getElem_mem hjt)).to hB.out hB.out.size).to hV hV.size) (by have := HMb1.out; omega)
              generalize wa l[j] (xb, xs) = wv at *
              generalize l[j] = y at *
              obtain ⟨yb, ys, yq, yd, yh, yc⟩ := y
              simp only at *
              have SB : Hid (∀ v, Below wr.heap.size wr v → v.cell? ⟨b, off + j * 4 + 2, none⟩ = some (.int .i64 yq) ∧ v.cell? ⟨b, off + j * 4 + 3, none⟩ = some (.slice yh yd.length yc) ∧ v.cell? ⟨b3', off3 + k * 2, none⟩ = some (.int .i64 xb) ∧ v.cell? ⟨b3', off3 + k * 2 + 1, none⟩ = some (.int .i64 xs)) := Lib.hid (fun v g => ⟨(World.cell?_of_block (g.block _ hbl)).trans q2, (World.cell?_of_block (g.block _ hbl)).trans q3, (World.cell?_of_block (g.block _ hbl4)).trans m0, (World.cell?_of_block (g.block _ hbl4)).trans m1⟩)
              have BD : Hid (Below wr.heap.size wr wr.drew) := (Below.refl _ _).drew
              clear q0 q1 q2 q3 m0 m1 hNw
              rcases bo with _ | _
              · go_wp2_with fail
                refine wp_region_held_drew (S := fun v => Below wr.heap.size wr v) (by kernel_rfl) BD.out (fun hH => ?_)
                refine wpAnyH_take (i := 0) (v := ?v243) rfl (by kernel_rfl) (by kernel_rfl) (by kernel_rfl) (fun _ _ _ h => h) (Or.inl ⟨by rfl, ?hy243⟩) hH ?rest243
                case hy243 => (intro w hSw; (try dsimp only at hSw); go_simp; try with_reducible rfl)
                try simp only [Act.put, List.setIfInBounds_toArray, List.set_cons_zero, List.set_cons_succ, List.getElem_toArray, List.getElem_cons_zero]
                refine wpAnyH_take (i := 1) (v := ?v244) rfl (by kernel_rfl) (by kernel_rfl) (by kernel_rfl) (fun _ _ _ h => h) (Or.inl ⟨by rfl, ?hy244⟩) hH ?rest244
                case hy244 => (intro w hSw; (try dsimp only at hSw); go_simp; try with_reducible rfl)
                try simp only [Act.put, List.setIfInBounds_toArray, List.set_cons_zero, List.set_cons_succ, List.getElem_toArray, List.getElem_cons_zero, List.getElem_cons_succ]
                refine wpAnyH_take (i := 2) (v := ?v245) rfl (by kernel_rfl) (by kernel_rfl) (by kernel_rfl) (fun _ _ _ h => h) (Or.inl ⟨by rfl, ?hy245⟩) hH ?rest245
                case hy245 => (intro w hSw; (try dsimp only at hSw); go_simp; try with_reducible rfl)
                try simp only [Act.put, List.setIfInBounds_toArray, List.set_cons_zero, List.set_cons_succ, List.getElem_toArray, List.getElem_cons_zero, List.getElem_cons_succ]
                refine wpAnyH_take (i := 3) (v := ?v246) rfl (by kernel_rfl) (by kernel_rfl) (by kernel_rfl) (fun _ _ _ h => h) (Or.inl ⟨by rfl, ?hy246⟩) hH ?rest246
                case hy246 => (intro w hSw; (try dsimp only at hSw); go_simp; try with_reducible rfl)
                try simp only [Act.put, List.setIfInBounds_toArray, List.set_cons_zero, List.set_cons_succ, List.getElem_toArray, List.getElem_cons_zero, List.getElem_cons_succ]
                refine wpAnyH_take (i := 7) (v := ?v247) rfl (by kernel_rfl) (by kernel_rfl) (by kernel_rfl) (fun _ _ _ h => h) (Or.inl ⟨by rfl, ?hy247⟩) hH ?rest247
                case hy247 => (intro w hSw; (try dsimp only at hSw); go_simp; try with_reducible rfl)
                try simp only [Act.put, List.setIfInBounds_toArray, List.set_cons_zero, List.set_cons_succ, List.getElem_toArray, List.getElem_cons_zero, List.getElem_cons_succ]
                refine wpAnyH_take (i := 8) (v := ?v248) rfl (by kernel_rfl) (by kernel_rfl) (by kernel_rfl) (fun _ _ _ h => h) (Or.inl ⟨by rfl, ?hy248⟩) hH ?rest248
                case hy248 => (intro w hSw; (try dsimp only at hSw); go_simp; try with_reducible rfl)
                try simp only [Act.put, List.setIfInBounds_toArray, List.set_cons_zero, List.set_cons_succ, List.getElem_toArray, List.getElem_cons_zero, List.getElem_cons_succ]
                refine wpAnyH_take (i := 4) (v := ?v249) rfl (by kernel_rfl) (by kernel_rfl) (by kernel_rfl) (fun _ _ _ h => h) (Or.inl ⟨by rfl, ?hy249⟩) hH ?rest249
                case hy249 => (intro w hSw; (try dsimp only at hSw); go_simp; try with_reducible rfl)
                try simp only [Act.put, List.setIfInBounds_toArray, List.set_cons_zero, List.set_cons_succ, List.getElem_toArray, List.getElem_cons_zero, List.getElem_cons_succ]
                refine wpAnyH_take (i := 9) (v := ?v250) rfl (by kernel_rfl) (by kernel_rfl) (by kernel_rfl) (fun _ _ _ h => h) (Or.inl ⟨by rfl, ?hy250⟩) hH ?rest250
                case hy250 => (intro w hSw; (try dsimp only at hSw); go_simp; try with_reducible rfl)
                try simp only [Act.put, List.setIfInBounds_toArray, List.set_cons_zero, List.set_cons_succ, List.getElem_toArray, List.getElem_cons_zero, List.getElem_cons_succ]
                refine wpAnyH_take (i := 5) (v := ?v251) rfl (by kernel_rfl) (by kernel_rfl) (by kernel_rfl) (fun _ _ _ h => h) (Or.inl ⟨by rfl, ?hy251⟩) hH ?rest251
                case hy251 => (intro w hSw; (try dsimp only at hSw); go_simp; try with_reducible rfl)
                try simp only [Act.put, List.setIfInBounds_toArray, List.set_cons_zero, List.set_cons_succ, List.getElem_toArray, List.getElem_cons_zero, List.getElem_cons_succ]
                refine wpAnyH_take (i := 10) (v := ?v252) rfl (by kernel_rfl) (by kernel_rfl) (by kernel_rfl) (fun _ _ _ h => h) (Or.inl ⟨by rfl, ?hy252⟩) hH ?rest252
                case hy252 => (intro w hSw; (try dsimp only at hSw); obtain ⟨f0, f1, f2, f3⟩ := SB.out w hSw; go_simp; try with_reducible rfl)
                try simp only [Act.put, List.setIfInBounds_toArray, List.set_cons_zero, List.set_cons_succ, List.getElem_toArray, List.getElem_cons_zero, List.getElem_cons_succ]
                refine wpAnyH_take (i := 6) (v := ?v253) rfl (by kernel_rfl) (by kernel_rfl) (by kernel_rfl) (fun _ _ _ h => h) (Or.inl ⟨by rfl, ?hy253⟩) hH ?rest253
                case hy253 => (intro w hSw; (try dsimp only at hSw); obtain ⟨f0, f1, f2, f3⟩ := SB.out w hSw; go_simp; try with_reducible rfl)
                try simp only [Act.put, List.setIfInBounds_toArray, List.set_cons_zero, List.set_cons_succ, List.getElem_toArray, List.getElem_cons_zero, List.getElem_cons_succ]
                refine wpAnyH_ready (rs := [11]) (by kernel_rfl) (by simp) ?_
                refine AllReadyH.cons rfl (fun K hK => ?_) AllReadyH.nil
                go_simp
                go_at_call 20
                with_reducible refine (HW _ hH).out.mono ?_
                rintro e wq254 ⟨rfl, bq254⟩
                go_wp2_with fail
                refine hK.out _ _ (hH.trans (bq254.mono hH.size)) (fun hH2 => ?_)
                clear hK K hH
                have hH := hH2
                clear hH2
                try simp only [Act.put, List.setIfInBounds_toArray, List.set_cons_zero, List.set_cons_succ, List.getElem_toArray, List.getElem_cons_zero, List.getElem_cons_succ]
                refine wpAnyH_take (i := 12) (v := ?v255) rfl (by kernel_rfl) (by kernel_rfl) (by kernel_rfl) (fun _ _ _ h => h) (Or.inl ⟨by rfl, ?hy255⟩) hH ?rest255
                case hy255 => (intro w hSw; (try dsimp only at hSw); go_simp; try with_reducible rfl)
                try simp only [Act.put, List.setIfInBounds_toArray, List.set_cons_zero, List.set_cons_succ, List.getElem_toArray, List.getElem_cons_zero, List.getElem_cons_succ]
                refine wpAnyH_take (i := 13) (v := ?v256) rfl (by kernel_rfl) (by kernel_rfl) (by kernel_rfl) (fun _ _ _ h => h) (Or.inl ⟨by rfl, ?hy256⟩) hH ?rest256
                case hy256 => (intro w hSw; (try dsimp only at hSw); go_simp; try with_reducible rfl)
                try simp only [Act.put, List.setIfInBounds_toArray, List.set_cons_zero, List.set_cons_succ, List.getElem_toArray, List.getElem_cons_zero, List.getElem_cons_succ]
                refine wpAnyH_done (by kernel_rfl) ?_ _
                have HBr := Lib.hid (hB.out.trans (hH.mono hB.out.size))
                have HQ2 : Hid (wv = (l.take (j + 1)).any fun n => wa n (xb, xs)) := by
                  show _ = _
                  rw [HQ.out, ← hb.out, Bool.false_or]
                clear HW SB BD hB hH HQ hb
                go_wp2
                go_roundg (l.length - (j + 1))
                case measure => omega
                case rel => exact ⟨j + 1, wv, by omega, rfl, by go_num, HQ2.out, HBr.out⟩
              · go_wp2_with fail
                refine wp_region_held_drew (S := fun v => Below wr.heap.size wr v) (by kernel_rfl) BD.out (fun hH => ?_)
                refine wpAnyH_take (i := 0) (v := ?v257) rfl (by kernel_rfl) (by kernel_rfl) (by kernel_rfl) (fun _ _ _ h => h) (Or.inl ⟨by rfl, ?hy257⟩) hH ?rest257
                case hy257 => (intro w hSw; (try dsimp only at hSw); go_simp; try with_reducible rfl)
                try simp only [Act.put, List.setIfInBounds_toArray, List.set_cons_zero, List.set_cons_succ, List.getElem_toArray, List.getElem_cons_zero]
                refine wpAnyH_take (i := 1) (v := ?v258) rfl (by kernel_rfl) (by kernel_rfl) (by kernel_rfl) (fun _ _ _ h => h) (Or.inl ⟨by rfl, ?hy258⟩) hH ?rest258
                case hy258 => (intro w hSw; (try dsimp only at hSw); go_simp; try with_reducible rfl)
                try simp only [Act.put, List.setIfInBounds_toArray, List.set_cons_zero, List.set_cons_succ, List.getElem_toArray, List.getElem_cons_zero, List.getElem_cons_succ]
                refine wpAnyH_take (i := 2) (v := undef) rfl (by kernel_rfl) (by kernel_rfl) (by kernel_rfl) (fun _ _ _ h => h) (Or.inr ⟨by rfl, rfl⟩) hH ?rest259
                try simp only [Act.put, List.setIfInBounds_toArray, List.set_cons_zero, List.set_cons_succ, List.getElem_toArray, List.getElem_cons_zero, List.getElem_cons_succ]
                refine wpAnyH_take (i := 3) (v := undef) rfl (by kernel_rfl) (by kernel_rfl) (by kernel_rfl) (fun _ _ _ h => h) (Or.inr ⟨by rfl, rfl⟩) hH ?rest260
                try simp only [Act.put, List.setIfInBounds_toArray, List.set_cons_zero, List.set_cons_succ, List.getElem_toArray, List.getElem_cons_zero, List.getElem_cons_succ]
                refine wpAnyH_take (i := 7) (v := undef) rfl (by kernel_rfl) (by kernel_rfl) (by kernel_rfl) (fun _ _ _ h => h) (Or.inr ⟨by rfl, rfl⟩) hH ?rest261
                try simp only [Act.put, List.setIfInBounds_toArray, List.set_cons_zero, List.set_cons_succ, List.getElem_toArray, List.getElem_cons_zero, List.getElem_cons_succ]
                refine wpAnyH_take (i := 8) (v := undef) rfl (by kernel_rfl) (by kernel_rfl) (by kernel_rfl) (fun _ _ _ h => h) (Or.inr ⟨by rfl, rfl⟩) hH ?rest262
                try simp only [Act.put, List.setIfInBounds_toArray, List.set_cons_zero, List.set_cons_succ, List.getElem_toArray, List.getElem_cons_zero, List.getElem_cons_succ]
                refine wpAnyH_take (i := 4) (v := undef) rfl (by kernel_rfl) (by kernel_rfl) (by kernel_rfl) (fun _ _ _ h => h) (Or.inr ⟨by rfl, rfl⟩) hH ?rest263
                try simp only [Act.put, List.setIfInBounds_toArray, List.set_cons_zero, List.set_cons_succ, List.getElem_toArray, List.getElem_cons_zero, List.getElem_cons_succ]
                refine wpAnyH_take (i := 9) (v := undef) rfl (by kernel_rfl) (by kernel_rfl) (by kernel_rfl) (fun _ _ _ h => h) (Or.inr ⟨by rfl, rfl⟩) hH ?rest264
                try simp only [Act.put, List.setIfInBounds_toArray, List.set_cons_zero, List.set_cons_succ, List.getElem_toArray, List.getElem_cons_zero, List.getElem_cons_succ]
                refine wpAnyH_take (i := 5) (v := undef) rfl (by kernel_rfl) (by kernel_rfl) (by kernel_rfl) (fun _ _ _ h => h) (Or.inr ⟨by rfl, rfl⟩) hH ?rest265
                try simp only [Act.put, List.setIfInBounds_toArray, List.set_cons_zero, List.set_cons_succ, List.getElem_toArray, List.getElem_cons_zero, List.getElem_cons_succ]
                refine wpAnyH_take (i := 10) (v := undef) rfl (by kernel_rfl) (by kernel_rfl) (by kernel_rfl) (fun _ _ _ h => h) (Or.inr ⟨by rfl, rfl⟩) hH ?rest266
                try simp only [Act.put, List.setIfInBounds_toArray, List.set_cons_zero, List.set_cons_succ, List.getElem_toArray, List.getElem_cons_zero, List.getElem_cons_succ]
                refine wpAnyH_take (i := 6) (v := undef) rfl (by kernel_rfl) (by kernel_rfl) (by kernel_rfl) (fun _ _ _ h => h) (Or.inr ⟨by rfl, rfl⟩) hH ?rest267
                try simp only [Act.put, List.setIfInBounds_toArray, List.set_cons_zero, List.set_cons_succ, List.getElem_toArray, List.getElem_cons_zero, List.getElem_cons_succ]
                refine wpAnyH_take (i := 11) (v := undef) rfl (by kernel_rfl) (by kernel_rfl) (by kernel_rfl) (fun _ _ _ h => h) (Or.inr ⟨by rfl, rfl⟩) hH ?rest268
                try simp only [Act.put, List.setIfInBounds_toArray, List.set_cons_zero, List.set_cons_succ, List.getElem_toArray, List.getElem_cons_zero, List.getElem_cons_succ]
                refine wpAnyH_take (i := 12) (v := ?v269) rfl (by kernel_rfl) (by kernel_rfl) (by kernel_rfl) (fun _ _ _ h => h) (Or.inl ⟨by rfl, ?hy269⟩) hH ?rest269
                case hy269 => (intro w hSw; (try dsimp only at hSw); go_simp; try with_reducible rfl)
                try simp only [Act.put, List.setIfInBounds_toArray, List.set_cons_zero, List.set_cons_succ, List.getElem_toArray, List.getElem_cons_zero, List.getElem_cons_succ]
                refine wpAnyH_take (i := 13) (v := ?v270) rfl (by kernel_rfl) (by kernel_rfl) (by kernel_rfl) (fun _ _ _ h => h) (Or.inl ⟨by rfl, ?hy270⟩) hH ?rest270
                case hy270 => (intro w hSw; (try dsimp only at hSw); go_simp; try with_reducible rfl)
                try simp only [Act.put, List.setIfInBounds_toArray, List.set_cons_zero, List.set_cons_succ, List.getElem_toArray, List.getElem_cons_zero, List.getElem_cons_succ]
                refine wpAnyH_done (by kernel_rfl) ?_ _
                have HBr := Lib.hid (hB.out.trans (hH.mono hB.out.size))
                have HQ2 : Hid (true = (l.take (j + 1)).any fun n => wa n (xb, xs)) := by
                  show _ = _
                  rw [HQ.out, ← hb.out, Bool.true_or]
                clear HW SB BD hB hH HQ hb
                go_wp2
                go_roundg (l.length - (j + 1))
                case measure => omega
                case rel => exact ⟨j + 1, true, by omega, rfl, by go_num, HQ2.out, HBr.out⟩
            · obtain rfl : j = l.length := by omega
              have hbt : bo = true := by
                rw [hb.out, List.take_length]
                obtain ⟨n, hn, hw⟩ := HEx.out
                exact List.any_eq_true.2 ⟨n, hn, hw⟩
              subst hbt
              clear hb
              go_wp2
              go_roundg (mm.length - (k + 1))
              case measure => omega
              case rel => exact ⟨k + 1, by omega, by go_num, hB.out⟩
    · obtain rfl : mm.length = k := by omega
      by_cases hm0 : mm = []
      · have h00 : decide ((0 : Int) < (mm.length : Int)) = false := by rw [hm0]; rfl
        have h01 : decide (0 < mm.length) = false := by rw [hm0]; rfl
        have HNone2 := Lib.hid (HNone.out hm0)
        clear HNone HLaw HRis hm0 HMb
        go_wp2
        go_loopg [12] l.length (fun q t W => ∃ k : Nat, k + q = l.length ∧ t = .int .i64 (k : Int) ∧ Hid (Below w4.heap.size w4 W))
        case atStart => exact ⟨0, by omega, rfl, hB.out⟩
        case round =>
          clear hB hk hlt h00 h01
          obtain ⟨k, hk, rfl, hB⟩ := hrel
          by_cases hlt : k < l.length
          · have hki : (k : Int) < (l.length : Int) := by omega
            have hk0 : (0 : Int) ≤ (k : Int) := by omega
            obtain ⟨kk, hkk⟩ : ∃ kk, kk = k + 1 := ⟨_, rfl⟩
            have hw : IntKind.i64.wrap ((k : Int) + 1) = (kk : Int) := by rw [IntWalk.i64_in _ (by omega)]; omega
            have HX := Lib.hid (List.getElem?_eq_getElem hlt)
            have HMx := Lib.hid (List.getElem_mem hlt)
            have hNw := HNl.out.to hB.out hB.out.size
            obtain ⟨Ax, ct, ht1, ht2, hNt⟩ := one_runN hNw c k kk hkk _ HX.out HcL.out
            have HC1 := HC wr k Ax ct hlt (HB4.out.trans (hB.out.mono HB4.out.size)) hNt
            have HL1 := Lib.hid (HNone2.out _ HMx.out)
            have HPi : l[k].i ∈ o → ∀ V, Below wr.heap.size wr V → Hid (Calls Tryz.prog 18 #[.slice A4 o.length c4, iv l[k].i] V (fun e w' => ∃ z : Nat, e = .returned (.int .i64 (z : Int)) ∧ Below V.heap.size V w')) := fun h V hV => place_in A4 c4 o _ h (by omega) V ((HO.out.to hB.out hB.out.size).to hV hV.size)
            have HCl : Hid ((((cs [l[k]] D).length : Int) == 1) = true → l[k].i ∈ o) := fun h => HL1.out (csn_one_len h).1 (csn_one_len h).2
            obtain ⟨b, off, rfl, hbl, p0, p1, p2, p3⟩ := hNw.at_ HX.out
            generalize cs [l[k]] D = cx at *
            have h1l : ([l[k]] : List No).length = 1 := rfl
            rw [h1l] at HC1
            have ht1' : ∀ W, (Instr.sliceAt 22 (.slice (some ⟨b, off, none⟩) l.length c) (some (.int .i64 (k : Int))) (some (.int .i64 (kk : Int))) none).run Tryz.prog W = .ok (.slice Ax 1 ct) W := ht1
            have ht2' : ∀ W, (Instr.slice 22 (.slice (some ⟨b, off, none⟩) l.length c) (some (.int .i64 (k : Int))) (some (.int .i64 (kk : Int))) none).run Tryz.prog W = .ok (.slice Ax 1 ct) W := ht2
            generalize l[k] = x at *
            obtain ⟨xb, xs, xq, xd, xh, xc⟩ := x
            simp only [iv, No.i] at *
            clear hkk hNw hNt ht1 ht2 h1l HC HMx HL1 HNone2
            go_wp2_with fail
            refine HC1.out.mono ?_
            rintro e w5 ⟨v5, rfl, ho5, b5⟩
            obtain ⟨A5, c5, rfl, hI5, -⟩ := own_nl ho5
            have HB5 := Lib.hid (hB.out.trans (b5.mono hB.out.size))
            have hNw5 := HNl.out.to HB5.out HB5.out.size
            obtain ⟨b', off', e', hbl', p0, p1, p2, p3⟩ := hNw5.at_ HX.out
            cases e'
            clear hNw5 ho5 hI5 ht1' ht2' hw p2 p3
            by_cases hc1 : (((cx.length : Int) == 1) = true)
            · have HP5 := HPi (HCl.out hc1) w5 b5
              clear HCl HPi hB b5 HC1
              generalize cx.length = cl at *
              go_wp2_with fail
              refine HP5.out.mono ?_
              rintro e w6 ⟨z, rfl, b6⟩
              have hz0 : decide ((z : Int) < 0) = false := decide_eq_false (by omega)
              have HB6 := Lib.hid (HB5.out.trans (b6.mono HB5.out.size))
              clear HP5 b6 HB5
              go_wp2
              go_roundg (l.length - (k + 1))
              case measure => omega
              case rel => exact ⟨k + 1, by omega, by go_num, HB6.out⟩
            · have hc2 : ((cx.length : Int) == 1) = false := by simpa using hc1
              clear HCl HPi hB b5 HC1 hc1
              generalize cx.length = cl at *
              go_wp2
              go_roundg (l.length - (k + 1))
              case measure => omega
              case rel => exact ⟨k + 1, by omega, by go_num, HB5.out⟩
          · obtain rfl : k = l.length := by omega
            have HBX := Lib.hid (HB4.out.trans (hB.out.mono HB4.out.size))
            go_wp2
            go_ret
            exact ⟨rfl, HBX.out⟩
      · have hpos : 0 < mm.length := List.length_pos_iff.2 hm0
        have h00 : decide ((0 : Int) < (mm.length : Int)) = true := decide_eq_true (by omega)
        have h01 : decide (0 < mm.length) = true := decide_eq_true hpos
        have HBX := Lib.hid (HB4.out.trans (hB.out.mono HB4.out.size))
        clear hm0 HNone HLaw HRis
        go_wp2
        go_ret
        exact ⟨rfl, HBX.out⟩
theorem lmissing_any (A : Option Addr) (c : Nat) (l : List No) (hc : l.length ≤ c) (Ad : Option Addr) (cd : Nat) (D : List Is) (hf : Wf l) (hW : Wd D) (w : World) (hs : Nl w w.heap.size A l) (hd : Dl w w.heap.size l) (hi : Il w w.heap.size Ad D) :
    Calls Tryz.prog 6 #[.slice A l.length c, .slice Ad D.length cd] w (UpPost w) := by
  by_cases hfw : fw l = true
  · have h1 := fw_iff.1 hfw
    by_cases hD : D.length ≤ 100
    · exact lmissing_core A c l h1.1 h1.2 hc Ad cd D hD hf hW w hs hd hi
    · have d2 : decide ((100 : Int) < (D.length : Int)) = true := decide_eq_true (by omega)
      have HAw := Lib.hid (awake_any w)
      have HFw := fun W h => Lib.hid (Few_any A c l W h)
      rw [hfw] at HFw
      clear hfw h1 hf hW hd hi
      go_enter Tryz.func6, Tryz.ntmps6
      go_wp2_with fail
      refine HAw.out.mono ?_
      rintro e w1 ⟨rfl, B1⟩
      have HFw1 := HFw w1 (hs.to B1 B1.size)
      go_wp2_with fail
      refine HFw1.out.mono ?_
      rintro e w2 ⟨rfl, rfl⟩
      go_wp2
      go_ret
      exact ⟨rfl, B1⟩
  · have hfw' : fw l = false := by simpa using hfw
    have HAw := Lib.hid (awake_any w)
    have HFw := fun W h => Lib.hid (Few_any A c l W h)
    rw [hfw'] at HFw
    clear hfw hfw' hf hW hd hi
    go_enter Tryz.func6, Tryz.ntmps6
    go_wp2_with fail
    refine HAw.out.mono ?_
    rintro e w1 ⟨rfl, B1⟩
    have HFw1 := HFw w1 (hs.to B1 B1.size)
    go_wp2_with fail
    refine HFw1.out.mono ?_
    rintro e w2 ⟨rfl, rfl⟩
    go_wp2
    go_ret
    exact ⟨rfl, B1⟩
end Go.Proofs.YtgpciipemgljcaaGreat.Od

namespace Go.Proofs.YtgpciipemgljcaaGreat.orderMissing
open Go.ChangeShapes Go.WideShapes Go.ChangeAt Go.RowKit Go.Joins Od
set_option linter.unusedVariables false
set_option maxRecDepth 100000

theorem walk (A : Option Addr) (c : Nat) (l : List No) (Ad : Option Addr) (cd : Nat) (D : List Is) (w : World) (hs : l.length ≤ c ∧ Wf l ∧ Nl w w.heap.size A l ∧ Dl w w.heap.size l) (hi : Wd D ∧ Il w w.heap.size Ad D) : Calls Tryz.prog 6 #[.slice A l.length c, .slice Ad D.length cd] w (UpPost w) :=
  lmissing_any A c l hs.1 Ad cd D hs.2.1 hi.1 w hs.2.2.1 hs.2.2.2 hi.2

theorem own : ownKnob Tryz.prog.godebug = none := by kernel_rfl
theorem laidOut : laidOutB Tryz.prog = true := by kernel_rfl

set_option maxRecDepth 100000 in
theorem lifted (os : Os) (started : os.Started) (H : Type) (enc : TypeId × Value → H) :
    ReturnsInHanded {} Tryz.checked os 6 .any (Rows.orderMissingSpec.pre6 enc Tryz.prog Tryz.f6 Rows.orderMissingRow.domain false) (Rows.orderMissingSpec.post enc Tryz.prog Tryz.f6 false true false false) := by
  refine returnsInHanded_of_change (C := Tryz.checked) own started (by kernel_rfl) Tryz.func6
    (ChangeSpec.witness6 (enc := enc) (C := Tryz.checked) false ⟨#[], #[.slice none 0 0, .slice none 0 0], []⟩ 8 (by kernel_rfl) (by kernel_rfl) (by kernel_rfl) (by kernel_rfl)) ?_
  intro W base args ds gs before hval0 hW hcnd _
  have hval : ∀ (j : Nat) t v, Tryz.f6.params[j]? = some t → args[j]? = some v → Value.okWide Tryz.prog W .any base t v := hval0
  have hW' := hW
  obtain ⟨p, q, hA, hV, rfl, hfz, hnd⟩ := hW
  have hA : DataW.TrodAll enc Tryz.prog W 0 (fun _ => true) true Tryz.f6.params.toList args.toList ds p := hA
  rw [Tryz.params6] at hA hval
  obtain ⟨v0, vs0, d0, ds0, p0, q0, hargs, rfl, rfl, h0, r0⟩ := trodAll_cons hA
  obtain ⟨v1, vs1, d1, ds1, p1, q1, rfl, rfl, rfl, h1, r1⟩ := trodAll_cons r0
  obtain ⟨rfl, rfl, rfl⟩ := trodAll_nil r1
  obtain rfl : args = #[v0, v1] := by cases args; simp_all
  obtain ⟨rfl, rfl⟩ := trodVars_none hV
  have k0 := h0
  have lt0 : ∀ x ∈ p0, x.block < W.heap.size := by obtain ⟨m, hm⟩ := k0; exact DataW.trod_lt m _ _ _ hm
  obtain ⟨A0, c0, l0, rfl, s0⟩ := open_nodes (hval 0 22 v0 rfl rfl) h0
  have k1 := h1
  have lt1 : ∀ x ∈ p1, x.block < W.heap.size := by obtain ⟨m, hm⟩ := k1; exact DataW.trod_lt m _ _ _ hm
  obtain ⟨A1, c1, l1, rfl, s1⟩ := open_insts (hval 1 23 v1 rfl rfl) h1
  clear hval0
  refine (walk A0 c0 l0 A1 c1 l1 W s0 s1).mono fun e W' ⟨he, bel⟩ => ?_
  subst he
  exact ⟨_, rfl, _, _, _, [], _, [], hW', trodAll_mk1 (shut_bool Tryz.underlying4 _), (trodAll_cons_mk (Below.trod laidOut (by kernel_rfl) (of_decide_eq_true (by kernel_rfl)) k0 bel lt0) (trodAll_cons_mk (Below.trod laidOut (by kernel_rfl) (of_decide_eq_true (by kernel_rfl)) k1 bel lt1) trodAll_mk0)), rfl, bel.frame _, fun h => by cases h⟩

theorem over : Rows.orderMissingRow.holds Tryz.pinned (OpenSpec.ofChange Rows.orderMissingSpec) :=
  OpenClaim.holds_of_wide 6 Tryz.f6 rfl rfl rfl rfl rfl rfl rfl ⟨rfl, rfl, rfl, rfl, rfl⟩ rfl rfl rfl rfl rfl (by kernel_rfl) Tryz.func6 (by kernel_rfl)
    (of_decide_eq_true (by kernel_rfl)) (by unfold Func.isWrapper; first | (rw [if_pos (by decide +kernel)]; kernel_rfl) | (rw [if_neg (by decide +kernel)]; exact ⟨rfl, rfl⟩))
    (fun os started H enc _ => lifted os started H enc)

theorem proved : Rows.OrderMissingSaid := over
#print axioms proved
end Go.Proofs.YtgpciipemgljcaaGreat.orderMissing
