/-
  The walk of the document's Get of a command: it answers what 'cg' says. Conditions: the bytes are bytes, fewer than 2^62.
-/
import Derived.Test.YteajbcngimccmaaDoorRgA
import Derived.Test.YteajbcngimccmaaDoorRgB
import Derived.Test.YteajbcngimccmaaDoorRgC
namespace Go.Proofs.YteajbcngimccmaaDoor
open Go.RowKit
set_option linter.unusedVariables false

theorem bd_bad {l l' : List Int} {n f : Int} {K : Int → List Int → G} (h : gx l = (n, l', f)) (hf : f ≠ 0) : bd l K = noG f := by rw [bd, h, if_pos hf]
theorem bd_good {l l' : List Int} {n : Int} {K : Int → List Int → G} (h : gx l = (n, l', 0)) : bd l K = K n l' := by rw [bd, h, if_neg (by simp)]
theorem ga_bad {l l' acc : List Int} {n f : Int} {m : Nat} (h : gx l = (n, l', f)) (hf : f ≠ 0) : ga (m + 1) acc l = ([], [], f) := by rw [ga, h, if_pos hf]
theorem ga_good {l l' acc : List Int} {n : Int} {m : Nat} (h : gx l = (n, l', 0)) : ga (m + 1) acc l = ga m (acc ++ [n]) l' := by rw [ga, h, if_neg (by simp)]
theorem gx_len (l : List Int) : (gx l).2.1.length ≤ l.length := by
  rw [gx]
  split
  · simp
  · exact Nat.le_refl _

theorem gx_all {l l' : List Int} {n : Int} (hb : ∀ x ∈ l, 0 ≤ x ∧ x ≤ 255) (hl : l.length ≤ 4611686018427387904) (h : gx l = (n, l', 0)) : 0 ≤ n ∧ l'.length ≤ 4611686018427387904 ∧ ∀ x ∈ l', 0 ≤ x ∧ x ≤ 255 := by
  have h1 := gx_len l
  have h2 := gx_bytes hb
  have h3 := gx_once hb (by rw [h])
  rw [h] at h1 h2 h3
  exact ⟨h3.2.1, Nat.le_trans h1 hl, h2⟩

theorem HMf (u s k h n : Int) (t : List Int) (b : Bool) (hm : mayB u s k h n t.length = b) : ∀ W, Hid (Calls Tryd.prog 13 #[cv u s k h n (strOfNums t)] W (BoolPost W b)) := fun W => by
  have := rmay_any u s k h n (strOfNums t) W
  rw [strOfNums_size, hm] at this
  exact this

theorem rget4_any (A : Option Addr) (c : Nat) (xs : List Int) (w : World) (hl : xs.length ≤ 4611686018427387904) (hcap : xs.length ≤ c) (hs : Sl w w.heap.size .u8 A xs) (hx : ∀ x ∈ xs, 0 ≤ x ∧ x ≤ 255) (g : G) (hg : cg xs = g) :
    Calls Tryd.prog 17 #[.slice A xs.length c] w (GPost w g) := by
  subst hg
  rw [cg_eq]
  rcases e1 : gx xs with ⟨k, l1, f1⟩
  by_cases z1 : f1 ≠ 0
  · rw [bd_bad e1 z1]; exact rg_e1 A c xs w hl hcap hs hx f1 z1 (ga_bad e1 z1)
  obtain rfl : f1 = 0 := Classical.not_not.1 z1
  rw [bd_good e1]
  have g1 : ga 1 [] xs = ([k], l1, 0) := ga_good e1
  obtain ⟨k0, bl1, bx1⟩ := gx_all hx hl e1
  by_cases h8 : 8 ≤ k
  · rw [if_pos h8]; exact rg_e2 A c xs w hl hcap hs hx l1 k g1 bl1 bx1 h8
  rw [if_neg h8]
  by_cases hk : k = 0
  · subst hk
    rw [if_pos rfl]
    by_cases hj : l1.length = 0
    · have : l1 = [] := List.length_eq_zero_iff.1 hj
      rw [this, fin_ok (by decide)]
      exact rg_k0 A c xs w hl hcap hs hx l1 g1 bl1 bx1 (fun W => numbered_any 0 W) (fun W => worded_any 0 W) (fun W => rmay_any 0 0 0 0 0 { data := #[] } W) hj
    · rw [fin_more (fun h => hj (by rw [h]; rfl))]
      exact rg_k0m A c xs w hl hcap hs hx l1 g1 bl1 bx1 (fun W => numbered_any 0 W) (fun W => worded_any 0 W) _ (fun W => rmay_any 0 0 0 0 0 { data := #[] } W) _ rfl (by omega)
  rw [if_neg hk, stK]
  have hk8 : decide (8 ≤ k) = false := by simpa using h8
  have hk0 : (k == 0) = false := by rw [beq_eq_false_iff_ne]; exact hk
  rcases eu : gx l1 with ⟨u, lu, fu⟩
  by_cases zu : fu ≠ 0
  · rw [bd_bad eu zu]; exact rg_e4 A c xs w hl hcap hs hx l1 k g1 bl1 bx1 hk8 hk0 fu zu (ga_bad eu zu)
  obtain rfl : fu = 0 := Classical.not_not.1 zu
  rw [bd_good eu]
  obtain ⟨_, blu, bxu⟩ := gx_all bx1 bl1 eu
  rcases es : gx lu with ⟨s, ls, fs⟩
  by_cases zs : fs ≠ 0
  · rw [bd_bad es zs]; exact rg_e4 A c xs w hl hcap hs hx l1 k g1 bl1 bx1 hk8 hk0 fs zs (by rw [ga_good eu, ga_bad es zs])
  obtain rfl : fs = 0 := Classical.not_not.1 zs
  rw [bd_good es]
  obtain ⟨_, bls, bxs⟩ := gx_all bxu blu es
  rcases eh : gx ls with ⟨h, l2, fh⟩
  by_cases zh : fh ≠ 0
  · rw [bd_bad eh zh]; exact rg_e4 A c xs w hl hcap hs hx l1 k g1 bl1 bx1 hk8 hk0 fh zh (by rw [ga_good eu, ga_good es, ga_bad eh zh])
  obtain rfl : fh = 0 := Classical.not_not.1 zh
  rw [bd_good eh]
  obtain ⟨_, bl2, bx2⟩ := gx_all bxs bls eh
  have g3 : ga 3 [] l1 = ([u, s, h], l2, 0) := by rw [ga_good eu, ga_good es, ga_good eh]; rfl
  have HQ : ∀ W, Hid (Calls Tryd.prog 24 #[.int .i64 k] W fun e w' => e = .returned (.bool (ndN k)) ∧ W = w') := fun W => numbered_any k W
  have HR : ∀ W, Hid (Calls Tryd.prog 25 #[.int .i64 k] W fun e w' => e = .returned (.bool (ndT k)) ∧ W = w') := fun W => worded_any k W
  rw [stN]
  cases q : ndN k
  · rw [q] at HQ
    simp only [Bool.false_eq_true, if_false]
    rw [stT]
    cases r : ndT k
    · rw [r] at HR
      simp only [Bool.false_eq_true, if_false]
      by_cases hj : l2.length = 0
      · have h2 : l2 = [] := List.length_eq_zero_iff.1 hj
        cases hm : mayB u s k h 0 0
        · rw [fin, if_pos (.inr hm)]
          exact rg_ff_not A c xs w hl hcap hs hx l1 k g1 bl1 bx1 hk8 hk0 u s h l2 g3 bl2 bx2 HQ HR (HMf u s k h 0 [] _ hm) hj
        · rw [h2, fin_ok hm]
          exact rg_ff_ok A c xs w hl hcap hs hx l1 k g1 bl1 bx1 hk8 hk0 u s h l2 g3 bl2 bx2 HQ HR (HMf u s k h 0 [] _ hm) hj
      · rw [fin_more (fun h => hj (by rw [h]; rfl))]
        exact rg_ff_more A c xs w hl hcap hs hx l1 k g1 bl1 bx1 hk8 hk0 u s h l2 g3 bl2 bx2 HQ HR _ (HMf u s k h 0 [] _ rfl) _ rfl (by omega)
    · rw [r] at HR
      simp only [if_true]
      rcases et : gx l2 with ⟨m, l5, ft⟩
      by_cases zt : ft ≠ 0
      · rw [bd_bad et zt]; exact rg_ft_eT A c xs w hl hcap hs hx l1 k g1 bl1 bx1 hk8 hk0 u s h l2 g3 bl2 bx2 HQ HR ft zt (ga_bad et zt)
      obtain rfl : ft = 0 := Classical.not_not.1 zt
      rw [bd_good et]
      obtain ⟨m0, bl5, bx5⟩ := gx_all bx2 bl2 et
      obtain ⟨m, rfl⟩ : ∃ j : Nat, m = (j : Int) := ⟨m.toNat, by omega⟩
      have g5 : ga 1 [] l2 = ([(m : Int)], l5, 0) := ga_good et
      by_cases hlt : (l5.length : Int) < (m : Int)
      · rw [if_pos hlt]; exact rg_ft_e3 A c xs w hl hcap hs hx l1 k g1 bl1 bx1 hk8 hk0 u s h l2 g3 bl2 bx2 HQ HR m l5 g5 bl5 bx5 hlt
      rw [if_neg hlt]
      have hle : m ≤ l5.length := by omega
      simp only [Int.toNat_natCast]
      by_cases hj : (l5.drop m).length = 0
      · have h2 : l5.drop m = [] := List.length_eq_zero_iff.1 hj
        cases hm : mayB u s k h 0 (l5.take m).length
        · rw [fin, if_pos (.inr hm)]
          exact rg_ft_not A c xs w hl hcap hs hx l1 k g1 bl1 bx1 hk8 hk0 u s h l2 g3 bl2 bx2 HQ HR m l5 g5 bl5 bx5 hle _ rfl (HMf u s k h 0 (l5.take m) _ hm) hj
        · rw [h2, fin_ok hm]
          exact rg_ft_ok A c xs w hl hcap hs hx l1 k g1 bl1 bx1 hk8 hk0 u s h l2 g3 bl2 bx2 HQ HR m l5 g5 bl5 bx5 hle _ rfl (HMf u s k h 0 (l5.take m) _ hm) hj
      · rw [fin_more (fun h => hj (by rw [h]; rfl))]
        exact rg_ft_more A c xs w hl hcap hs hx l1 k g1 bl1 bx1 hk8 hk0 u s h l2 g3 bl2 bx2 HQ HR m l5 g5 bl5 bx5 hle _ rfl _ (HMf u s k h 0 (l5.take m) _ rfl) _ rfl (by omega)
  · rw [q] at HQ
    simp only [if_true]
    rcases en : gx l2 with ⟨n, l3, fn⟩
    by_cases zn : fn ≠ 0
    · rw [bd_bad en zn]; exact rg_eN A c xs w hl hcap hs hx l1 k g1 bl1 bx1 hk8 hk0 u s h l2 g3 bl2 bx2 HQ fn zn (ga_bad en zn)
    obtain rfl : fn = 0 := Classical.not_not.1 zn
    rw [bd_good en]
    obtain ⟨_, bl3, bx3⟩ := gx_all bx2 bl2 en
    have gn : ga 1 [] l2 = ([n], l3, 0) := ga_good en
    rw [stT]
    cases r : ndT k
    · rw [r] at HR
      simp only [Bool.false_eq_true, if_false]
      by_cases hj : l3.length = 0
      · have h2 : l3 = [] := List.length_eq_zero_iff.1 hj
        cases hm : mayB u s k h n 0
        · rw [fin, if_pos (.inr hm)]
          exact rg_tf_not A c xs w hl hcap hs hx l1 k g1 bl1 bx1 hk8 hk0 u s h l2 g3 bl2 bx2 HQ n l3 gn bl3 bx3 HR (HMf u s k h n [] _ hm) hj
        · rw [h2, fin_ok hm]
          exact rg_tf_ok A c xs w hl hcap hs hx l1 k g1 bl1 bx1 hk8 hk0 u s h l2 g3 bl2 bx2 HQ n l3 gn bl3 bx3 HR (HMf u s k h n [] _ hm) hj
      · rw [fin_more (fun h => hj (by rw [h]; rfl))]
        exact rg_tf_more A c xs w hl hcap hs hx l1 k g1 bl1 bx1 hk8 hk0 u s h l2 g3 bl2 bx2 HQ n l3 gn bl3 bx3 HR _ (HMf u s k h n [] _ rfl) _ rfl (by omega)
    · rw [r] at HR
      simp only [if_true]
      rcases et : gx l3 with ⟨m, l5, ft⟩
      by_cases zt : ft ≠ 0
      · rw [bd_bad et zt]; exact rg_tt_eT A c xs w hl hcap hs hx l1 k g1 bl1 bx1 hk8 hk0 u s h l2 g3 bl2 bx2 HQ n l3 gn bl3 bx3 HR ft zt (ga_bad et zt)
      obtain rfl : ft = 0 := Classical.not_not.1 zt
      rw [bd_good et]
      obtain ⟨m0, bl5, bx5⟩ := gx_all bx3 bl3 et
      obtain ⟨m, rfl⟩ : ∃ j : Nat, m = (j : Int) := ⟨m.toNat, by omega⟩
      have g5 : ga 1 [] l3 = ([(m : Int)], l5, 0) := ga_good et
      by_cases hlt : (l5.length : Int) < (m : Int)
      · rw [if_pos hlt]; exact rg_tt_e3 A c xs w hl hcap hs hx l1 k g1 bl1 bx1 hk8 hk0 u s h l2 g3 bl2 bx2 HQ n l3 gn bl3 bx3 HR m l5 g5 bl5 bx5 hlt
      rw [if_neg hlt]
      have hle : m ≤ l5.length := by omega
      simp only [Int.toNat_natCast]
      by_cases hj : (l5.drop m).length = 0
      · have h2 : l5.drop m = [] := List.length_eq_zero_iff.1 hj
        cases hm : mayB u s k h n (l5.take m).length
        · rw [fin, if_pos (.inr hm)]
          exact rg_tt_not A c xs w hl hcap hs hx l1 k g1 bl1 bx1 hk8 hk0 u s h l2 g3 bl2 bx2 HQ n l3 gn bl3 bx3 HR m l5 g5 bl5 bx5 hle _ rfl (HMf u s k h n (l5.take m) _ hm) hj
        · rw [h2, fin_ok hm]
          exact rg_tt_ok A c xs w hl hcap hs hx l1 k g1 bl1 bx1 hk8 hk0 u s h l2 g3 bl2 bx2 HQ n l3 gn bl3 bx3 HR m l5 g5 bl5 bx5 hle _ rfl (HMf u s k h n (l5.take m) _ hm) hj
      · rw [fin_more (fun h => hj (by rw [h]; rfl))]
        exact rg_tt_more A c xs w hl hcap hs hx l1 k g1 bl1 bx1 hk8 hk0 u s h l2 g3 bl2 bx2 HQ n l3 gn bl3 bx3 HR m l5 g5 bl5 bx5 hle _ rfl _ (HMf u s k h n (l5.take m) _ rfl) _ rfl (by omega)

end Go.Proofs.YteajbcngimccmaaDoor
