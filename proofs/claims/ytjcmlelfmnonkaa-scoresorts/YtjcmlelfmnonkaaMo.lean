/-
  The walk of sort.symMerge_func at this translation where one of the two runs is of one number: it is put where it belongs. Conditions: both runs are in order and lie inside the row.
-/
import Derived.Test.YtjcmlelfmnonkaaRo
namespace Go.Proofs.Ytjcmlelfmnonkaa
open Go.Shelf Go.RowKit Go.Sort Go.Proofs.Ytjcmlelfmnonkaa.Fl
set_option linter.unusedVariables false
set_option maxRecDepth 100000

/-- What a merge leaves. -/
def Mg (d : Array Nat) (a b : Nat) (d' : Array Nat) : Prop := St.Same rk (fn d) (fn d') a b ∧ St.So rk (fn d') a b
theorem lt_fn (d : Array Nat) (i j : Nat) : ltk d[i]! d[j]! = decide (rk (fn d i) < rk (fn d j)) := rfl
theorem up_merge {d d' : Array Nat} {a b e : Nat} (o2 : St.So rk (fn d) (a + 1) b) (h1 : a + 1 ≤ e) (h2 : e ≤ b) (lo : ∀ x, a + 1 ≤ x → x < e → rk (fn d x) < rk (fn d a)) (hi : ∀ x, e ≤ x → x < b → rk (fn d a) ≤ rk (fn d x))
    (hg : ∀ x, fn d' x = if a ≤ x ∧ x + 1 < e then fn d (x + 1) else if x + 1 = e then fn d a else fn d x) : Mg d a b d' := by
  have r := St.rot_up (f := fn d) (g := fn d') (s := a) (e := e) (by omega) hg
  have hlt : ∀ i j, a ≤ i → i < a + 1 → a + 1 ≤ j → j < e → rk (fn d j) < rk (fn d i) := fun i j i1 i2 j1 j2 => by
    have : i = a := by omega
    subst this
    exact lo j j1 j2
  have o1 : St.So rk (fn d) a (a + 1) := fun i j i1 i2 i3 => by
    have : i = j := by omega
    subst this
    exact Nat.le_refl _
  refine ⟨(r.same (by omega) h1 hlt).wide (Nat.le_refl _) (by omega) h2, ?_⟩
  obtain ⟨r1, r2, r3, r4⟩ := r.runs (a := a) (b := b) (Nat.le_refl _) (by omega) h1 h2 o1 o2
  have cr := r.cross (a := a) (b := b) (Nat.le_refl _) (by omega) h1 h2 o1 o2 hlt (fun i j i1 i2 => by omega) (fun _ _ _ _ _ _ => trivial)
  refine r2.join (r3.join r4 fun i j i1 i2 j1 j2 => ?_) cr
  have e1 := r.hi 0 (by omega)
  have : i = a + (e - (a + 1)) + 0 := by omega
  rw [this, e1, r.out j (by omega)]
  exact hi j j1 j2
theorem down_merge {d d' : Array Nat} {a m s : Nat} (o1 : St.So rk (fn d) a m) (h1 : a ≤ s) (h2 : s ≤ m) (lo : ∀ x, a ≤ x → x < s → rk (fn d x) ≤ rk (fn d m)) (hi : ∀ x, s ≤ x → x < m → rk (fn d m) < rk (fn d x))
    (hg : ∀ x, fn d' x = if s < x ∧ x ≤ m then fn d (x - 1) else if x = s then fn d m else fn d x) : Mg d a (m + 1) d' := by
  have r := St.rot_down (f := fn d) (g := fn d') (s := s) (m := m) h2 hg
  have hlt : ∀ i j, s ≤ i → i < m → m ≤ j → j < m + 1 → rk (fn d j) < rk (fn d i) := fun i j i1 i2 j1 j2 => by
    have : j = m := by omega
    subst this
    exact hi i i1 i2
  have o2 : St.So rk (fn d) m (m + 1) := fun i j i1 i2 i3 => by
    have : i = j := by omega
    subst this
    exact Nat.le_refl _
  refine ⟨(r.same h2 (by omega) hlt).wide h1 (by omega) (Nat.le_refl _), ?_⟩
  obtain ⟨r1, r2, r3, r4⟩ := r.runs (a := a) (b := m + 1) h1 h2 (by omega) (Nat.le_refl _) o1 o2
  have cr := r.cross (a := a) (b := m + 1) h1 h2 (by omega) (Nat.le_refl _) o1 o2 hlt (fun i j i1 i2 j1 j2 => by omega) (fun _ _ _ _ _ _ => trivial)
  refine (r1.join r2 fun i j i1 i2 j1 j2 => ?_).join r3 cr
  have e1 := r.lo 0 (by omega)
  have : j = s + 0 := by omega
  rw [this, e1, r.out i (by omega)]
  exact lo i i1 i2

theorem half_run {i j h : Nat} (hh : h = (i + j) / 2) (w : World) : (binOp .shr 45 (.int .u64 ((i : Int) + (j : Int))) (.int .u64 1)).run Try.prog w = .ok (.int .u64 (h : Int)) w := by
  have e : ((i : Int) + (j : Int)) / 2 ^ (1 : Int).toNat = (h : Int) := by
    show ((i : Int) + (j : Int)) / 2 = (h : Int)
    omega
  simp only [binOp_shr, shift_shr_u64 .u64 ((i : Int) + (j : Int)) 1 (by omega) (by omega), e]
  rfl
set_option maxHeartbeats 1600000 in
theorem merge_up (lb sb : Array Value) (blk off n : Nat) (d : Array Nat) (hs : d.size = n) (a b : Nat) (h2 : a + 1 < b) (h3 : b ≤ n) (hn : n < 1152921504606846976) (o2 : St.So rk (fn d) (a + 1) b) (W : World) (R : Rdy lb sb blk off n W) (hH : Holds en W blk off d) :
    Hid (Calls Try.prog 56 #[dat lb sb, .int .i64 (a : Int), .int .i64 ((a : Int) + 1), .int .i64 (b : Int)] W (SPost W blk off n (Mg d a b))) := by
  refine Lib.hid ?_
  have RV := Lib.hid (R.box (bx lb sb))
  have HV := Lib.hid (holds_box R.blt hH (bx lb sb))
  have hbl := R.blt
  have SV := Lib.hid (SW.start HV.out)
  have O2 := Lib.hid o2
  have q1 : (((a : Int) + 1 - (a : Int)) == 1) = true := by rw [beq_iff_eq]; omega
  have eg := e33
  clear hH R o2
  unfold dat
  go_enter Try.func56, Try.ntmps56
  go_wp2
  go_loopw [8, 9] (fun u v wr => ∃ i j : Nat, u = .int .i64 (i : Int) ∧ v = .int .i64 (j : Int) ∧ a + 1 ≤ i ∧ i ≤ j ∧ j ≤ b ∧ Hid (SW en (W.alloc (bx lb sb)) blk off d wr) ∧
    Hid (∀ x, a + 1 ≤ x → x < i → rk (fn d x) < rk (fn d a)) ∧ Hid (∀ x, j ≤ x → x < b → rk (fn d a) ≤ rk (fn d x))) (fun u v _ => (intOf v).toNat - (intOf u).toNat)
  case atStart => exact ⟨a + 1, b, by go_num, by go_num, by omega, by omega, by omega, SV, Lib.hid (fun x _ _ => by omega), Lib.hid (fun x _ _ => by omega)⟩
  case round =>
    obtain ⟨i, j, rfl, rfl, hi, hij, hj, HS, HL, HU⟩ := hrel
    obtain ⟨c0, c1⟩ := box_cell hbl HS.out
    by_cases hlt : i < j
    · obtain ⟨h, hh⟩ : ∃ h, h = (i + j) / 2 := ⟨_, rfl⟩
      have hl := HS.out.less RV.out.less hs h a (by omega) (by omega)
      rw [lt_fn, show ((h : Nat) : Int) = ((i : Int) + (j : Int)) / 2 by omega] at hl
      have hh' := fun w => half_run hh w
      have HQ : ∀ q, Hid (SW en (W.alloc (bx lb sb)) blk off d (wr.drewN q)) := fun q => Lib.hid (HS.out.drewN q)
      have h0 : i ≤ h ∧ h < j := by omega
      cases hv : decide (rk (fn d h) < rk (fn d a))
      · rw [hv] at hl
        have HL' := Lib.hid hl
        have HU2 : Hid (∀ x, h ≤ x → x < b → rk (fn d a) ≤ rk (fn d x)) := Lib.hid (fun x x1 x2 => by
          have := of_decide_eq_false hv
          have := O2.out h x (by omega) x1 x2
          omega)
        clear hl hv
        go_wp2_with (go_at_call 33; refine HL'.out.mono ?_; rintro e w2 ⟨rfl, q, rfl⟩)
        go_roundw
        case rel => exact ⟨i, h, rfl, by congr 1; omega, hi, by omega, by omega, HQ q, HL, HU2⟩
        case measure => simp [intOf]; omega
      · rw [hv] at hl
        have HL' := Lib.hid hl
        have HL2 : Hid (∀ x, a + 1 ≤ x → x < h + 1 → rk (fn d x) < rk (fn d a)) := Lib.hid (fun x x1 x2 => by
          have := of_decide_eq_true hv
          have := O2.out x h x1 (by omega) (by omega)
          omega)
        clear hl hv
        go_wp2_with (go_at_call 33; refine HL'.out.mono ?_; rintro e w2 ⟨rfl, q, rfl⟩)
        go_roundw
        case rel => exact ⟨h + 1, j, by congr 1; omega, rfl, by omega, by omega, hj, HQ q, HL2, HU⟩
        case measure => simp [intOf]; omega
    · have hij2 : i = j := by omega
      subst hij2
      go_wp2
      go_loopw [11] (fun v wr2 => ∃ (t : Nat) (dk : Array Nat), v = .int .i64 (t : Int) ∧ a ≤ t ∧ t + 1 ≤ i ∧ dk.size = n ∧ Hid (SW en (W.alloc (bx lb sb)) blk off dk wr2) ∧
        Hid (∀ x, fn dk x = if a ≤ x ∧ x < t then fn d (x + 1) else if x = t then fn d a else fn d x)) (fun v _ => i - (intOf v).toNat)
      case atStart => exact ⟨a, d, rfl, by omega, by omega, hs, HS, Lib.hid (fun x => by
        rw [if_neg (by omega)]
        by_cases c : x = a
        · rw [if_pos c, c]
        · rw [if_neg c])⟩
      case round =>
        obtain ⟨t, dk, rfl, ht, ht2, hsk, HT, HF⟩ := hrel
        rename_i wr2 _
        obtain ⟨f0, f1⟩ := box_cell hbl HT.out
        by_cases hlt2 : t + 1 < i
        · have hsw := RV.out.swap _ dk (HT.out.holds RV.out.blt HV.out (by omega)) hsk t (t + 1) (by omega) (by omega)
          rw [show ((t + 1 : Nat) : Int) = (t : Int) + 1 by omega] at hsw
          have HN : Hid (SW en (W.alloc (bx lb sb)) blk off (swp dk t (t + 1)) _) := Lib.hid (HT.out.swap RV.out.blt t (t + 1) (by omega) (by omega))
          have HG : Hid (∀ x, fn (swp dk t (t + 1)) x = if a ≤ x ∧ x < t + 1 then fn d (x + 1) else if x = t + 1 then fn d a else fn d x) := Lib.hid (fun x => by
            rw [fn_swp (by omega) (by omega), HF.out, HF.out, HF.out]
            by_cases z1 : x = t + 1
            · subst z1
              rw [if_pos rfl, if_neg (by omega), if_pos rfl, if_neg (by omega), if_pos rfl]
            · rw [if_neg z1]
              by_cases z2 : x = t
              · subst z2
                rw [if_pos rfl, if_neg (by omega), if_neg (by omega), if_pos (by omega)]
              · rw [if_neg z2]
                by_cases z3 : a ≤ x ∧ x < t
                · rw [if_pos z3, if_pos (by omega)]
                · rw [if_neg z3, if_neg z2, if_neg (by omega), if_neg z1])
          have HW := Lib.hid hsw
          clear hsw
          go_wp2
          rw [HW.out, Oper.upon_value]
          go_wp2
          go_roundw
          case rel => exact ⟨t + 1, swp dk t (t + 1), by go_num, by omega, by omega, by rw [size_swp]; exact hsk, HN, HG⟩
          case measure => simp [intOf]; omega
        · have ht3 : t + 1 = i := by omega
          go_wp2
          go_end0
          refine ⟨rfl, dk, hsk, up_merge (e := i) O2.out hi hj HL.out HU.out (fun x => ?_), sw_base hbl HT.out⟩
          rw [HF.out]
          by_cases z1 : a ≤ x ∧ x < t
          · rw [if_pos z1, if_pos (by omega)]
          · rw [if_neg z1]
            by_cases z2 : x = t
            · rw [if_pos z2, if_neg (by omega), if_pos (by omega)]
            · rw [if_neg z2, if_neg (by omega), if_neg (by omega)]

set_option maxHeartbeats 1600000 in
theorem merge_down (lb sb : Array Value) (blk off n : Nat) (d : Array Nat) (hs : d.size = n) (a m : Nat) (h2 : a + 1 < m) (h3 : m + 1 ≤ n) (hn : n < 1152921504606846976) (o1 : St.So rk (fn d) a m) (W : World) (R : Rdy lb sb blk off n W) (hH : Holds en W blk off d) :
    Hid (Calls Try.prog 56 #[dat lb sb, .int .i64 (a : Int), .int .i64 (m : Int), .int .i64 ((m : Int) + 1)] W (SPost W blk off n (Mg d a (m + 1)))) := by
  refine Lib.hid ?_
  have RV := Lib.hid (R.box (bx lb sb))
  have HV := Lib.hid (holds_box R.blt hH (bx lb sb))
  have hbl := R.blt
  have SV := Lib.hid (SW.start HV.out)
  have O1 := Lib.hid o1
  have q1 : (((m : Int) - (a : Int)) == 1) = false := by rw [beq_eq_false_iff_ne]; omega
  have q2 : (((m : Int) + 1 - (m : Int)) == 1) = true := by rw [beq_iff_eq]; omega
  have eg := e33
  clear hH R o1
  unfold dat
  go_enter Try.func56, Try.ntmps56
  go_wp2
  go_loopw [12, 13] (fun u v wr => ∃ i j : Nat, u = .int .i64 (i : Int) ∧ v = .int .i64 (j : Int) ∧ a ≤ i ∧ i ≤ j ∧ j ≤ m ∧ Hid (SW en (W.alloc (bx lb sb)) blk off d wr) ∧
    Hid (∀ x, a ≤ x → x < i → rk (fn d x) ≤ rk (fn d m)) ∧ Hid (∀ x, j ≤ x → x < m → rk (fn d m) < rk (fn d x))) (fun u v _ => (intOf v).toNat - (intOf u).toNat)
  case atStart => exact ⟨a, m, rfl, rfl, by omega, by omega, by omega, SV, Lib.hid (fun x _ _ => by omega), Lib.hid (fun x _ _ => by omega)⟩
  case round =>
    obtain ⟨i, j, rfl, rfl, hi, hij, hj, HS, HL, HU⟩ := hrel
    obtain ⟨c0, c1⟩ := box_cell hbl HS.out
    by_cases hlt : i < j
    · obtain ⟨h, hh⟩ : ∃ h, h = (i + j) / 2 := ⟨_, rfl⟩
      have hl := HS.out.less RV.out.less hs m h (by omega) (by omega)
      rw [lt_fn, show ((h : Nat) : Int) = ((i : Int) + (j : Int)) / 2 by omega] at hl
      have hh' := fun w => half_run hh w
      have HQ : ∀ q, Hid (SW en (W.alloc (bx lb sb)) blk off d (wr.drewN q)) := fun q => Lib.hid (HS.out.drewN q)
      have h0 : i ≤ h ∧ h < j := by omega
      cases hv : decide (rk (fn d m) < rk (fn d h))
      · rw [hv] at hl
        have HL' := Lib.hid hl
        have HL2 : Hid (∀ x, a ≤ x → x < h + 1 → rk (fn d x) ≤ rk (fn d m)) := Lib.hid (fun x x1 x2 => by
          have := of_decide_eq_false hv
          have := O1.out x h x1 (by omega) (by omega)
          omega)
        clear hl hv
        go_wp2_with (go_at_call 33; refine HL'.out.mono ?_; rintro e w2 ⟨rfl, q, rfl⟩)
        go_roundw
        case rel => exact ⟨h + 1, j, by congr 1; omega, rfl, by omega, by omega, hj, HQ q, HL2, HU⟩
        case measure => simp [intOf]; omega
      · rw [hv] at hl
        have HL' := Lib.hid hl
        have HU2 : Hid (∀ x, h ≤ x → x < m → rk (fn d m) < rk (fn d x)) := Lib.hid (fun x x1 x2 => by
          have := of_decide_eq_true hv
          have := O1.out h x (by omega) x1 x2
          omega)
        clear hl hv
        go_wp2_with (go_at_call 33; refine HL'.out.mono ?_; rintro e w2 ⟨rfl, q, rfl⟩)
        go_roundw
        case rel => exact ⟨i, h, rfl, by congr 1; omega, hi, by omega, by omega, HQ q, HL, HU2⟩
        case measure => simp [intOf]; omega
    · have hij2 : i = j := by omega
      subst hij2
      go_wp2
      go_loopw [15] (fun v wr2 => ∃ (t : Nat) (dk : Array Nat), v = .int .i64 (t : Int) ∧ i ≤ t ∧ t ≤ m ∧ dk.size = n ∧ Hid (SW en (W.alloc (bx lb sb)) blk off dk wr2) ∧
        Hid (∀ x, fn dk x = if t < x ∧ x ≤ m then fn d (x - 1) else if x = t then fn d m else fn d x)) (fun v _ => (intOf v).toNat)
      case atStart => exact ⟨m, d, rfl, by omega, by omega, hs, HS, Lib.hid (fun x => by
        rw [if_neg (by omega)]
        by_cases c : x = m
        · rw [if_pos c, c]
        · rw [if_neg c])⟩
      case round =>
        obtain ⟨t, dk, rfl, ht, ht2, hsk, HT, HF⟩ := hrel
        obtain ⟨f0, f1⟩ := box_cell hbl HT.out
        by_cases hlt2 : i < t
        · have hsw := RV.out.swap _ dk (HT.out.holds RV.out.blt HV.out (by omega)) hsk t (t - 1) (by omega) (by omega)
          rw [show ((t - 1 : Nat) : Int) = (t : Int) - 1 by omega] at hsw
          have HN : Hid (SW en (W.alloc (bx lb sb)) blk off (swp dk t (t - 1)) _) := Lib.hid (HT.out.swap RV.out.blt t (t - 1) (by omega) (by omega))
          have HG : Hid (∀ x, fn (swp dk t (t - 1)) x = if t - 1 < x ∧ x ≤ m then fn d (x - 1) else if x = t - 1 then fn d m else fn d x) := Lib.hid (fun x => by
            rw [fn_swp (by omega) (by omega), HF.out, HF.out, HF.out]
            by_cases z1 : x = t - 1
            · subst z1
              rw [if_pos rfl, if_neg (by omega), if_pos rfl, if_neg (by omega), if_pos rfl]
            · rw [if_neg z1]
              by_cases z2 : x = t
              · subst z2
                rw [if_pos rfl, if_neg (by omega), if_neg (by omega), if_pos (by omega)]
              · rw [if_neg z2]
                by_cases z3 : t < x ∧ x ≤ m
                · rw [if_pos z3, if_pos (by omega)]
                · rw [if_neg z3, if_neg z2, if_neg (by omega), if_neg z1])
          have HW := Lib.hid hsw
          clear hsw
          go_wp2
          rw [HW.out, Oper.upon_value]
          go_wp2
          go_roundw
          case rel => exact ⟨t - 1, swp dk t (t - 1), by congr 1; omega, by omega, by omega, by rw [size_swp]; exact hsk, HN, HG⟩
          case measure => simp [intOf]; omega
        · have ht3 : t = i := by omega
          subst ht3
          go_wp2
          go_end0
          exact ⟨rfl, dk, hsk, down_merge (s := t) O1.out hi hj HL.out HU.out HF.out, sw_base hbl HT.out⟩
end Go.Proofs.Ytjcmlelfmnonkaa
