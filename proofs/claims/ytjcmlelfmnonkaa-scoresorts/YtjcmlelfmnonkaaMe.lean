/-
  The walk of sort.symMerge_func at this translation: two runs of a row of numbers become one, and those that are just as great stay as they stood. Conditions: both runs are in order, not empty, and lie inside the row.
-/
import Derived.Test.YtjcmlelfmnonkaaMo
import Derived.Deep.CutRange
import Derived.Deep.Light
namespace Go.Proofs.Ytjcmlelfmnonkaa
open Go.Shelf Go.RowKit Go.Sort Go.Proofs.Ytjcmlelfmnonkaa.Fl
set_option linter.unusedVariables false
set_option maxRecDepth 100000

theorem rot_none {f : Nat → Nat} {s m e : Nat} (h : s = m ∨ m = e) : St.Rot f f s m e := by
  refine ⟨fun i hi => rfl, fun i hi => ?_, fun i hi => ?_⟩
  · rcases h with h | h
    · rw [h]
    · omega
  · rcases h with h | h
    · omega
    · rw [show s + (e - m) + i = s + i by omega]
/-- What the search and the rotation leave: four runs, and the lower two not above the upper two. -/
theorem search_rot {f g : Nat → Nat} {a m b c s e s0 r0 : Nat} (o1 : St.So rk f a m) (o2 : St.So rk f m b) (h1 : a ≤ s) (h2 : s ≤ m) (h3 : m ≤ e) (h4 : e ≤ b) (h5 : s + e = c + m) (hx : s0 = a ∧ r0 = m ∨ s0 + b = c + m ∧ r0 = c)
    (hL : s = s0 ∨ rk (f (s - 1)) ≤ rk (f (c + m - 1 - (s - 1)))) (hU : s = r0 ∨ rk (f (c + m - 1 - s)) < rk (f s)) (hs0 : s0 ≤ s) (r : St.Rot f g s m e) :
    St.So rk g a s ∧ St.So rk g s c ∧ St.So rk g c e ∧ St.So rk g e b ∧ (∀ i j, a ≤ i → i < c → c ≤ j → j < b → rk (g i) ≤ rk (g j)) := by
  have ec : s + (e - m) = c := by omega
  have hlt : ∀ i j, s ≤ i → i < m → m ≤ j → j < e → rk (f j) < rk (f i) := fun i j i1 i2 j1 j2 => by
    rcases hU with h | h
    · omega
    · have x1 := o1 s i h1 i1 i2
      have x2 := o2 j (c + m - 1 - s) j1 (by omega) (by omega)
      omega
  have hle : ∀ i j, a ≤ i → i < s → e ≤ j → j < b → rk (f i) ≤ rk (f j) := fun i j i1 i2 j1 j2 => by
    rcases hL with h | h
    · omega
    · have x1 := o1 i (s - 1) i1 (by omega) (by omega)
      have x2 := o2 (c + m - 1 - (s - 1)) j (by omega) (by omega) j2
      omega
  obtain ⟨r1, r2, r3, r4⟩ := r.runs h1 h2 h3 h4 o1 o2
  have cr := r.cross h1 h2 h3 h4 o1 o2 hlt hle (fun _ _ _ _ _ _ => trivial)
  rw [ec] at r2 r3 cr
  exact ⟨r1, r2, r3, r4, cr⟩
theorem search_same {f g : Nat → Nat} {a m b c s e s0 r0 : Nat} (o1 : St.So rk f a m) (o2 : St.So rk f m b) (h1 : a ≤ s) (h2 : s ≤ m) (h3 : m ≤ e) (h4 : e ≤ b) (h5 : s + e = c + m) (hx : s0 = a ∧ r0 = m ∨ s0 + b = c + m ∧ r0 = c)
    (hU : s = r0 ∨ rk (f (c + m - 1 - s)) < rk (f s)) (r : St.Rot f g s m e) : St.Same rk f g a b := by
  refine (r.same h2 h3 fun i j i1 i2 j1 j2 => ?_).wide h1 (by omega) h4
  rcases hU with h | h
  · omega
  · have x1 := o1 s i h1 i1 i2
    have x2 := o2 j (c + m - 1 - s) j1 (by omega) (by omega)
    omega

/-- Where the search looks. -/
theorem look_at {a m b c s0 r0 i j n : Nat} (h1 : a < m) (h2 : m < b) (h3 : b ≤ n) (hc1 : 2 * c ≤ a + b) (hc2 : a + b ≤ 2 * c + 1) (hx : s0 = a ∧ r0 = m ∧ m ≤ c ∨ s0 + b = c + m ∧ r0 = c ∧ c < m) (hi : s0 ≤ i) (hij : i < j) (hj : j ≤ r0) :
    ∃ h : Nat, i ≤ h ∧ h < j ∧ ((i : Int) + (j : Int)) / 2 = (h : Int) ∧ h < n ∧ c + m - 1 - h < n ∧ ((c + m - 1 - h : Nat) : Int) = (c : Int) + (m : Int) - 1 - (h : Int) := by
  refine ⟨(i + j) / 2, ?_, ?_, ?_, ?_, ?_, ?_⟩ <;> omega
/-- Where it ends. -/
theorem end_at {a m b c s0 r0 i : Nat} (h1 : a < m) (h2 : m < b) (hc1 : 2 * c ≤ a + b) (hc2 : a + b ≤ 2 * c + 1) (hx : s0 = a ∧ r0 = m ∧ m ≤ c ∨ s0 + b = c + m ∧ r0 = c ∧ c < m) (hi : s0 ≤ i) (hj : i ≤ r0) :
    ∃ e : Nat, (c : Int) + (m : Int) - (i : Int) = (e : Int) ∧ m ≤ e ∧ e ≤ b ∧ i + e = c + m ∧ a ≤ i ∧ i ≤ m ∧ i ≤ c ∧ c ≤ e := by
  refine ⟨c + m - i, ?_, ?_, ?_, ?_, ?_, ?_, ?_, ?_⟩ <;> omega
theorem no_and {p q : Prop} [Decidable p] [Decidable q] (h : ¬ (p ∧ q)) : (decide p && decide q) = false := by
  by_cases hp : p
  · rw [decide_eq_false (fun hq => h ⟨hp, hq⟩), Bool.and_false]
  · rw [decide_eq_false hp]; rfl

set_option maxHeartbeats 4000000 in
theorem merge_any (lb sb : Array Value) (blk off n : Nat) (hn : n < 1152921504606846976) : ∀ (k a m b : Nat) (d : Array Nat) (W : World), b - a ≤ k → a < m → m < b → b ≤ n → d.size = n → St.So rk (fn d) a m → St.So rk (fn d) m b → Rdy lb sb blk off n W → Holds en W blk off d →
    Hid (Calls Try.prog 56 #[dat lb sb, .int .i64 (a : Int), .int .i64 (m : Int), .int .i64 (b : Int)] W (SPost W blk off n (Mg d a b))) := by
  intro k
  induction k with
  | zero =>
    intro a m b d W hk h1 h2 h3 hs o1 o2 R hH
    omega
  | succ k ih =>
    intro a m b d W hk h1 h2 h3 hs o1 o2 R hH
    by_cases e1 : m = a + 1
    · subst e1
      have := merge_up lb sb blk off n d hs a b (by omega) h3 hn o2 W R hH
      rw [show ((a + 1 : Nat) : Int) = (a : Int) + 1 by omega]
      exact this
    by_cases e2 : b = m + 1
    · subst e2
      have := merge_down lb sb blk off n d hs a m (by omega) h3 hn o1 W R hH
      rw [show ((m + 1 : Nat) : Int) = (m : Int) + 1 by omega]
      exact this
    refine Lib.hid ?_
    obtain ⟨c, hc⟩ : ∃ c, c = (a + b) / 2 := ⟨_, rfl⟩
    have hc1 : 2 * c ≤ a + b := by omega
    have hc2 : a + b ≤ 2 * c + 1 := by omega
    have hcI : ((a : Int) + (b : Int)) / 2 = (c : Int) := by omega
    have hc3 : c < b := by omega
    have hc4 : a < c := by omega
    have IH := Lib.hid ih
    clear ih
    have IHlo : c - a ≤ k := by omega
    have IHhi : b - c ≤ k := by omega
    have RV := Lib.hid (R.box (bx lb sb))
    have HV := Lib.hid (holds_box R.blt hH (bx lb sb))
    have hbl := R.blt
    have SV := Lib.hid (SW.start HV.out)
    have O1 := Lib.hid o1
    have O2 := Lib.hid o2
    have q1 : (((m : Int) - (a : Int)) == 1) = false := by rw [beq_eq_false_iff_ne]; omega
    have q2 : (((b : Int) - (m : Int)) == 1) = false := by rw [beq_eq_false_iff_ne]; omega
    have eg := e33
    have hb1 : b < 1152921504606846976 := by omega
    have hm1 : m < 1152921504606846976 := by omega
    have hcm : c ≤ n := by omega
    clear hH R o1 o2 hc e1 e2
    unfold dat
    go_enter Try.func56, Try.ntmps56
    go_upto_if 106 with fail
    go_cut [18, 19] from 104 to 112 (fun u v wx => ∃ s0 r0 : Nat, u = .int .i64 (s0 : Int) ∧ v = .int .i64 (r0 : Int) ∧ (s0 = a ∧ r0 = m ∧ m ≤ c ∨ s0 + b = c + m ∧ r0 = c ∧ c < m) ∧ wx = W.alloc (bx lb sb))
    case first =>
      by_cases hm : c < m
      · go_wp2
        go_meet
        case rel => exact ⟨c + m - b, c, by go_light; congr 1; omega, rfl, Or.inr ⟨by go_light; omega, rfl, hm⟩, rfl⟩
      · go_wp2
        go_meet
        case rel => exact ⟨a, m, rfl, rfl, Or.inl ⟨rfl, rfl, by go_light; omega⟩, rfl⟩
    case rest =>
      obtain ⟨s0, r0, rfl, rfl, hx, rfl⟩ := hcut
      have HSR : s0 ≤ r0 := by omega
      have hr1 : r0 ≤ m := by omega
      go_wp2
      go_loopw [18, 19] (fun u v wr => ∃ i j : Nat, u = .int .i64 (i : Int) ∧ v = .int .i64 (j : Int) ∧ s0 ≤ i ∧ i ≤ j ∧ j ≤ r0 ∧ Hid (SW en (W.alloc (bx lb sb)) blk off d wr) ∧
        Hid (i = s0 ∨ rk (fn d (i - 1)) ≤ rk (fn d (c + m - 1 - (i - 1)))) ∧ Hid (j = r0 ∨ rk (fn d (c + m - 1 - j)) < rk (fn d j))) (fun u v _ => (intOf v).toNat - (intOf u).toNat)
      case atStart => exact ⟨s0, r0, rfl, rfl, Nat.le_refl _, HSR, Nat.le_refl _, SV, Lib.hid (Or.inl rfl), Lib.hid (Or.inl rfl)⟩
      case round =>
        obtain ⟨i, j, rfl, rfl, hi, hij, hj, HS, HL, HU⟩ := hrel
        obtain ⟨c0, c1⟩ := box_cell hbl HS.out
        by_cases hlt : i < j
        · obtain ⟨h, g1, g2, hhI, g3, g4, g5⟩ := look_at h1 h2 h3 hc1 hc2 hx hi hlt hj
          have hl := HS.out.less RV.out.less hs (c + m - 1 - h) h g4 g3
          rw [lt_fn, g5] at hl
          have HQ : ∀ q, Hid (SW en (W.alloc (bx lb sb)) blk off d (wr.drewN q)) := fun q => Lib.hid (HS.out.drewN q)
          clear g4 g5
          cases hv : decide (rk (fn d (c + m - 1 - h)) < rk (fn d h))
          · rw [hv] at hl
            have HL' := Lib.hid hl
            have HL2 : Hid (h + 1 = s0 ∨ rk (fn d (h + 1 - 1)) ≤ rk (fn d (c + m - 1 - (h + 1 - 1)))) := Lib.hid (Or.inr (Nat.le_of_not_lt (of_decide_eq_false hv)))
            clear hl hv
            go_wp2_with (go_at_call 33; refine HL'.out.mono ?_; rintro e w2 ⟨rfl, q, rfl⟩)
            go_roundw
            case rel => exact ⟨h + 1, j, by go_light; go_num, rfl, by go_light; omega, g2, hj, HQ q, HL2, HU⟩
            case measure => go_light; simp [intOf]; omega
          · rw [hv] at hl
            have HL' := Lib.hid hl
            have HU2 : Hid (h = r0 ∨ rk (fn d (c + m - 1 - h)) < rk (fn d h)) := Lib.hid (Or.inr (of_decide_eq_true hv))
            clear hl hv
            go_wp2_with (go_at_call 33; refine HL'.out.mono ?_; rintro e w2 ⟨rfl, q, rfl⟩)
            go_roundw
            case rel => exact ⟨i, h, rfl, rfl, hi, g1, by go_light; omega, HQ q, HL, HU2⟩
            case measure => go_light; simp [intOf]; omega
        · have hij2 : i = j := Nat.le_antisymm hij (Nat.le_of_not_lt hlt)
          subst hij2
          obtain ⟨e, heI, he1, he2, he3, hai, him, hic, hce⟩ := end_at h1 h2 hc1 hc2 hx hi hj
          have HX : Hid (∀ d1 : Array Nat, St.Rot (fn d) (fn d1) i m e → (St.So rk (fn d1) a i ∧ St.So rk (fn d1) i c ∧ St.So rk (fn d1) c e ∧ St.So rk (fn d1) e b ∧ (∀ i j, a ≤ i → i < c → c ≤ j → j < b → rk (fn d1 i) ≤ rk (fn d1 j))) ∧ St.Same rk (fn d) (fn d1) a b) := Lib.hid (fun d1 r =>
            ⟨search_rot (s0 := s0) (r0 := r0) O1.out O2.out hai him he1 he2 he3 (by rcases hx with x | x; exact Or.inl ⟨x.1, x.2.1⟩; exact Or.inr ⟨x.1, x.2.1⟩) HL.out HU.out hi r, search_same (s0 := s0) (r0 := r0) O1.out O2.out hai him he1 he2 he3 (by rcases hx with x | x; exact Or.inl ⟨x.1, x.2.1⟩; exact Or.inr ⟨x.1, x.2.1⟩) HU.out r⟩)
          have hen : e ≤ n := Nat.le_trans he2 h3
          clear HL HU hx hlt hij hi hj HSR hr1
          obtain ⟨tA, htA⟩ : ∃ tA, tA = (decide ((i : Int) < (m : Int)) && decide ((m : Int) < (e : Int))) := ⟨_, rfl⟩
          go_upto_region 40 with fail
          go_cut [145] from 138 to 144 (fun u wx => u = .bool tA ∧ wx = wr)
          case first =>
            by_cases hA1 : (i : Int) < (m : Int)
            · rw [decide_eq_true hA1, Bool.true_and] at htA
              go_wp2
              go_meet
              case rel => exact ⟨by first | rfl | (rw [htA]; done) | (rw [htA]; congr 1; rw [decide_eq_decide]; omega), rfl⟩
            · rw [decide_eq_false hA1, Bool.false_and] at htA
              go_wp2
              go_meet
              case rel => exact ⟨by first | rfl | (rw [htA]; done) | (rw [htA]; congr 1; rw [decide_eq_decide]; omega), rfl⟩
          case rest =>
            obtain ⟨rfl, rfl⟩ := hcut
            go_upto_if 145 with fail
            go_cut [] from 146 to 150 (fun wx => ∃ d1 : Array Nat, d1.size = n ∧ Hid (SW en (W.alloc (bx lb sb)) blk off d1 wx) ∧ Hid (St.Rot (fn d) (fn d1) i m e))
            case first =>
              cases tA
              · have hA : ¬ (i < m ∧ m < e) := fun x => by
                  rw [decide_eq_true (by omega : (i : Int) < (m : Int)), decide_eq_true (by omega : (m : Int) < (e : Int))] at htA
                  cases htA
                have HR : Hid (St.Rot (fn d) (fn d) i m e) := Lib.hid (rot_none (by omega))
                clear hA htA
                go_wp2
                go_meet
                case rel => exact ⟨d, hs, HS, HR⟩
              · have hA := htA.symm
                rw [Bool.and_eq_true, decide_eq_true_eq, decide_eq_true_eq] at hA
                obtain ⟨hA1, hA2⟩ : i < m ∧ m < e := ⟨by omega, by omega⟩
                clear hA htA
                have HC := rotate_any lb sb blk off n d hs i m e hA1 hA2 hen hn _ (RV.out.on HS.out hs) (HS.out.holds RV.out.blt HV.out rfl)
                unfold dat at HC
                go_wp2_with (go_at_call 59; refine HC.out.mono ?_; rintro e1 wa ⟨rfl, d1, s1, r1, z1⟩)
                go_meet
                case rel => exact ⟨d1, s1, Lib.hid (sw_then RV.out.blt HS.out z1 (by rw [s1, hs])), Lib.hid r1⟩
            case rest =>
              clear htA
              obtain ⟨d1, s1, HS1, HR⟩ := hcut
              have HY := Lib.hid (HX.out d1 HR.out)
              obtain ⟨b0, b1⟩ := box_cell hbl HS1.out
              clear HX HR HS c0 c1 O1 O2 SV
              obtain ⟨tB, htB⟩ : ∃ tB, tB = (decide ((a : Int) < (i : Int)) && decide ((i : Int) < (c : Int))) := ⟨_, rfl⟩
              have GB : Hid (SW en (W.alloc (bx lb sb)) blk off d1 _) := HS1
              go_upto_region 42 with fail
              go_cut [158] from 151 to 157 (fun u wx => u = .bool tB ∧ Hid (SW en (W.alloc (bx lb sb)) blk off d1 wx))
              case first =>
                by_cases hA1 : (a : Int) < (i : Int)
                · rw [decide_eq_true hA1, Bool.true_and] at htB
                  go_wp2
                  go_meet
                  case rel => exact ⟨by first | rfl | (rw [htB]; done) | (rw [htB]; congr 1; rw [decide_eq_decide]; omega), HS1⟩
                · rw [decide_eq_false hA1, Bool.false_and] at htB
                  go_wp2
                  go_meet
                  case rel => exact ⟨by first | rfl | (rw [htB]; done) | (rw [htB]; congr 1; rw [decide_eq_decide]; omega), HS1⟩
              case rest =>
                clear HS1 GB b0 b1
                obtain ⟨rfl, HS1⟩ := hcut
                obtain ⟨b0, b1⟩ := box_cell hbl HS1.out
                go_upto_if 158 with fail
                go_cut [] from 159 to 163 (fun wx => ∃ d2 : Array Nat, d2.size = n ∧ Hid (SW en (W.alloc (bx lb sb)) blk off d2 wx) ∧ Hid (St.Same rk (fn d1) (fn d2) a c ∧ St.So rk (fn d2) a c))
                case first =>
                  cases tB
                  · have hB : ¬ (a < i ∧ i < c) := fun x => by
                      rw [decide_eq_true (by omega : (a : Int) < (i : Int)), decide_eq_true (by omega : (i : Int) < (c : Int))] at htB
                      cases htB
                    have HR : Hid (St.Same rk (fn d1) (fn d1) a c ∧ St.So rk (fn d1) a c) := Lib.hid ⟨St.Same.refl _ _ _, by
                      rcases (by omega : a = i ∨ i = c) with x | x
                      · rw [x]; exact HY.out.1.2.1
                      · rw [← x]; exact HY.out.1.1⟩
                    clear hB htB
                    go_wp2
                    go_meet
                    case rel => exact ⟨d1, s1, HS1, HR⟩
                  · have hB := htB.symm
                    rw [Bool.and_eq_true, decide_eq_true_eq, decide_eq_true_eq] at hB
                    obtain ⟨hB1, hB2⟩ : a < i ∧ i < c := ⟨by omega, by omega⟩
                    clear hB htB
                    have HL1 := IH.out a i c d1 _ IHlo hB1 hB2 hcm s1 HY.out.1.1 HY.out.1.2.1 (RV.out.on HS1.out s1) (HS1.out.holds RV.out.blt HV.out (by rw [s1, hs]))
                    unfold dat at HL1
                    go_wp2_with (go_at_call 56; refine HL1.out.mono ?_; rintro e2 wb ⟨rfl, d2, s2, r2, z2⟩)
                    go_meet
                    case rel => exact ⟨d2, s2, Lib.hid (sw_then RV.out.blt HS1.out z2 (by rw [s2, s1])), Lib.hid r2⟩
                case rest =>
                  clear htB
                  obtain ⟨d2, s2, HS2, HM2⟩ := hcut
                  obtain ⟨g0, g1⟩ := box_cell hbl HS2.out
                  clear HS1 b0 b1
                  by_cases hC : c < e ∧ e < b
                  · obtain ⟨hC1, hC2⟩ := hC
                    have HU1 := IH.out c e b d2 _ IHhi hC1 hC2 h3 s2 (HY.out.1.2.2.1.same_out HM2.out.1 (Or.inr (Nat.le_refl _))) (HY.out.1.2.2.2.1.same_out HM2.out.1 (Or.inr hce)) (RV.out.on HS2.out s2) (HS2.out.holds RV.out.blt HV.out (by rw [s2, hs]))
                    unfold dat at HU1
                    go_wp2_with (go_at_call 56; refine HU1.out.mono ?_; rintro e3 wc ⟨rfl, d3, s3, r3, z3⟩)
                    go_end0
                    have HZ := St.halves (Nat.le_of_lt hc4) (Nat.le_of_lt hc3) HY.out.1.2.2.2.2 HM2.out.1 HM2.out.2 r3.1 r3.2
                    exact ⟨rfl, d3, s3, ⟨HY.out.2.trans HZ.1, HZ.2⟩, sw_base hbl (sw_then RV.out.blt HS2.out z3 (by rw [s3, s2]))⟩
                  · have nC : (decide ((c : Int) < (e : Int)) && decide ((e : Int) < (b : Int))) = false := no_and (fun x => hC ⟨by omega, by omega⟩)
                    have HM3 : Hid (St.Same rk (fn d2) (fn d2) c b ∧ St.So rk (fn d2) c b) := Lib.hid ⟨St.Same.refl _ _ _, by
                      rcases (by omega : c = e ∨ e = b) with x | x
                      · rw [x]; exact HY.out.1.2.2.2.1.same_out HM2.out.1 (Or.inr hce)
                      · rw [← x]; exact HY.out.1.2.2.1.same_out HM2.out.1 (Or.inr (Nat.le_refl _))⟩
                    have HZ := Lib.hid (St.halves (Nat.le_of_lt hc4) (Nat.le_of_lt hc3) HY.out.1.2.2.2.2 HM2.out.1 HM2.out.2 HM3.out.1 HM3.out.2)
                    clear HM3
                    by_cases hC1 : (c : Int) < (e : Int)
                    · have hC2 : ¬ (e : Int) < (b : Int) := fun x => hC ⟨by omega, by omega⟩
                      clear hC nC
                      go_wp2
                      go_end0
                      exact ⟨rfl, d2, s2, ⟨HY.out.2.trans HZ.out.1, HZ.out.2⟩, sw_base hbl HS2.out⟩
                    · clear hC nC
                      go_wp2
                      go_end0
                      exact ⟨rfl, d2, s2, ⟨HY.out.2.trans HZ.out.1, HZ.out.2⟩, sw_base hbl HS2.out⟩
end Go.Proofs.Ytjcmlelfmnonkaa
