/-
  The walk of command.Get: it answers what 'cg' says. Conditions: the bytes are bytes, fewer than 2^62; the table of what kinds need reads as its initialiser lays it.
-/
import Derived.Test.YteajbcngimccmaaDoorCmd
namespace Go.Proofs.YteajbcngimccmaaDoor
open Go.RowKit
set_option linter.unusedVariables false

def cT (k u s h n : Int) (l : List Int) (e : Int) : Co := if ndT k then ⟨u, s, k, h, n, (tst (nx l e).1 (nx l e).2.1 (nx l e).2.2).1, (tst (nx l e).1 (nx l e).2.1 (nx l e).2.2).2.1, (tst (nx l e).1 (nx l e).2.1 (nx l e).2.2).2.2⟩ else ⟨u, s, k, h, n, [], l, e⟩
def cN (k u s h : Int) (l : List Int) (e : Int) : Co := if ndN k then cT k u s h (nx l e).1 (nx l e).2.1 (nx l e).2.2 else cT k u s h 0 l e
def cC (k u s : Int) (l : List Int) (e : Int) : Co := cN k u s (nx l e).1 (nx l e).2.1 (nx l e).2.2
def cS (k u : Int) (l : List Int) (e : Int) : Co := cC k u (nx l e).1 (nx l e).2.1 (nx l e).2.2
def cU (k : Int) (l : List Int) (e : Int) : Co := cS k (nx l e).1 (nx l e).2.1 (nx l e).2.2
theorem cst_eq (l : List Int) (e : Int) : cst l e = if (kst l e).1 = 0 then ⟨0, 0, 0, 0, 0, [], (kst l e).2.1, (kst l e).2.2⟩ else cU (kst l e).1 (kst l e).2.1 (kst l e).2.2 := by
  unfold cst cU cS cC cN cT
  simp only
  split
  · rfl
  · cases ndN (kst l e).1 <;> rfl

/-- What Get makes of it. -/
def gfin (r : Co) : G := if r.e ≠ 0 then noG r.e else fin r.u r.s r.k r.h r.n r.t r.l

theorem nx_late {l : List Int} {e : Int} (h : e ≠ 0) : nx l e = (0, l, e) := by rw [nx, if_neg h]
theorem nx_0 (l : List Int) : nx l 0 = gx l := by rw [nx, if_pos rfl]
theorem tst_late (l : List Int) (e : Int) : tst 0 l e = ([], l, e) := by rw [tst, if_neg (by omega)]; rfl
theorem cT_late {k u s h n : Int} {l : List Int} {e : Int} (he : e ≠ 0) : (cT k u s h n l e).e = e := by
  rw [cT, nx_late he]
  split
  · simp only [tst_late]
  · rfl
theorem cN_late {k u s h : Int} {l : List Int} {e : Int} (he : e ≠ 0) : (cN k u s h l e).e = e := by
  rw [cN, nx_late he]
  split <;> exact cT_late he
theorem cC_late {k u s : Int} {l : List Int} {e : Int} (he : e ≠ 0) : (cC k u s l e).e = e := by rw [cC, nx_late he]; exact cN_late he
theorem cS_late {k u : Int} {l : List Int} {e : Int} (he : e ≠ 0) : (cS k u l e).e = e := by rw [cS, nx_late he]; exact cC_late he
theorem gfin_late {r : Co} {e : Int} (h : r.e = e) (he : e ≠ 0) : gfin r = noG e := by rw [gfin, h, if_pos he]

theorem gx_two (l : List Int) : (gx l).2.2 = 0 ∨ (gx l).2.2 ≠ 0 := by by_cases h : (gx l).2.2 = 0 <;> simp [h]

theorem g_bd {l : List Int} {K : Int → List Int → G} {F : Int → List Int → Int → Co} (hl : ∀ n l' e, e ≠ 0 → (F n l' e).e = e) (h0 : ∀ n l', gfin (F n l' 0) = K n l') : gfin (F (nx l 0).1 (nx l 0).2.1 (nx l 0).2.2) = bd l K := by
  rw [nx_0, bd]
  by_cases he : (gx l).2.2 = 0
  · rw [he, if_neg (by simp)]; exact h0 _ _
  · rw [if_pos he]; exact gfin_late (hl _ _ _ he) he
theorem g_T (k u s h n : Int) (l : List Int) : gfin (cT k u s h n l 0) = stT k (fun t l => fin u s k h n t l) l := by
  rw [cT, stT]
  split
  · refine g_bd (F := fun m l' e => ⟨u, s, k, h, n, (tst m l' e).1, (tst m l' e).2.1, (tst m l' e).2.2⟩) (fun m l' e he => ?_) (fun m l' => ?_)
    · show (tst m l' e).2.2 = e
      rw [tst]
      split
      · rfl
      · rfl
    · rw [tst]
      split
      · rfl
      · rfl
  · rfl
theorem g_N (k u s h : Int) (l : List Int) : gfin (cN k u s h l 0) = stN k (fun n l => stT k (fun t l => fin u s k h n t l) l) l := by
  rw [cN, stN]
  split
  · exact g_bd (F := fun n l' e => cT k u s h n l' e) (fun n l' e he => cT_late he) (fun n l' => g_T k u s h n l')
  · exact g_T k u s h 0 l
theorem g_U (k : Int) (l : List Int) : gfin (cU k l 0) = stK k l := by
  rw [cU, stK]
  refine g_bd (F := fun u l' e => cS k u l' e) (fun u l' e he => cS_late he) (fun u l' => ?_)
  rw [cS]
  refine g_bd (F := fun s l' e => cC k u s l' e) (fun s l' e he => cC_late he) (fun s l' => ?_)
  rw [cC]
  exact g_bd (F := fun h l' e => cN k u s h l' e) (fun h l' e he => cN_late he) (fun h l' => g_N k u s h l')

theorem cg_cst (xs : List Int) : gfin (cst xs 0) = cg xs := by
  by_cases he : (gx xs).2.2 = 0
  · by_cases h8 : (gx xs).1 < 8
    · have ek : kst xs 0 = gx xs := by rw [kst, nx_0, if_pos h8]
      rw [cst_eq, ek, cg_eq, bd, if_neg (show ¬ ((gx xs).2.2 ≠ 0) from fun h => h he)]
      by_cases hk : (gx xs).1 = 0
      · rw [if_pos hk, if_neg (by omega), if_pos hk, he]; rfl
      · rw [if_neg hk, if_neg (by omega), if_neg hk, he]; exact g_U _ _
    · have ek : kst xs 0 = (0, (gx xs).2.1, 2) := by rw [kst, nx_0, if_neg h8, if_pos he]
      rw [cst_eq, ek, cg_eq, bd, if_neg (show ¬ ((gx xs).2.2 ≠ 0) from fun h => h he), if_pos rfl, if_pos (by omega)]; rfl
  · have e0 : (gx xs).1 = 0 := by
      rw [gx] at he ⊢
      split
      · rename_i h; rw [if_pos h] at he; exact absurd rfl he
      · rfl
    have ek : kst xs 0 = gx xs := by rw [kst, nx_0, if_pos (by rw [e0]; decide)]
    rw [cst_eq, ek, cg_eq, bd, if_pos he, if_pos e0]
    exact gfin_late rfl he

/-- The call gave what g says; nothing that was there has turned. -/
def GPost (w : World) (g : G) (e : Ending) (w' : World) : Prop := e = .returned (.tuple #[cv g.u g.s g.k g.h g.n (strOfNums g.t), .int .i64 g.e]) ∧ Below w.heap.size w w'

theorem run_res16 {V : World} {tm : Array Value} {B : Nat} {u s k h n : Int} {t : ByteArray} {x : Value} (h2 : tm[2]?.getD undef = .pointer (some ⟨B, 0, none⟩)) (h3 : tm[3]?.getD undef = x) (hb : Cb V B u s k h n t) :
    (results Tryd.f16 tm).run Tryd.prog V = .ok (.tuple #[cv u s k h n t, x]) V := by
  obtain ⟨c0, c1, c2, c3, c4, c5⟩ := hb
  simp [results, Tryd.results16, h2, h3, go_sem, c0, c1, c2, c3, c4, c5]

theorem six {W : World} {B : Nat} {a b c d e : Int} {f : ByteArray} (hb : Bx W B a b c d e f) (u s k h n : Int) (t : ByteArray) :
    Bx ((((((W.setCell ⟨B, 0, none⟩ (.int .i64 u)).setCell ⟨B, 1, none⟩ (.int .i64 s)).setCell ⟨B, 2, none⟩ (.int .i64 k)).setCell ⟨B, 3, none⟩ (.int .i64 h)).setCell ⟨B, 4, none⟩ (.int .i64 n)).setCell ⟨B, 5, none⟩ (.string t)) B u s k h n t :=
  heap_setCell_same _ _ 5 _ 23 _ (heap_setCell_same _ _ 4 _ 23 _ (heap_setCell_same _ _ 3 _ 23 _ (heap_setCell_same _ _ 2 _ 23 _ (heap_setCell_same _ _ 1 _ 23 _ (heap_setCell_same W _ 0 _ 23 _ hb)))))
theorem six_below {w W : World} {B D : Nat} (hb : Below D w W) (hD : D ≤ B) (u s k h n : Int) (t : ByteArray) :
    Below D w ((((((W.setCell ⟨B, 0, none⟩ (.int .i64 u)).setCell ⟨B, 1, none⟩ (.int .i64 s)).setCell ⟨B, 2, none⟩ (.int .i64 k)).setCell ⟨B, 3, none⟩ (.int .i64 h)).setCell ⟨B, 4, none⟩ (.int .i64 n)).setCell ⟨B, 5, none⟩ (.string t)) :=
  (((((hb.setCell hD _).setCell hD _).setCell hD _).setCell hD _).setCell hD _).setCell hD _

theorem Cb.drew {w : World} {B : Nat} {u s k h n : Int} {t : ByteArray} (hc : Cb w B u s k h n t) : Cb w.drew B u s k h n t := hc

set_option maxHeartbeats 1000000 in
theorem get4_more (A : Option Addr) (c : Nat) (xs : List Int) (w : World) (hN : Nd w) (hl : xs.length ≤ 4611686018427387904) (hcap : xs.length ≤ c) (hs : Sl w w.heap.size .u8 A xs) (hx : ∀ x ∈ xs, 0 ≤ x ∧ x ≤ 255) (r : Co) (hc : cst xs 0 = r)
    (m : Nat) (hlen : r.l.length = m) (hm : (0 : Int) < (m : Int)) (f : Int) (hf : (if r.e = 0 then (2 : Int) else r.e) = f) (hf0 : (f == 0) = false) : Calls Tryd.prog 16 #[.slice A xs.length c] w (GPost w (noG f)) := by
  have HC : ∀ W, Nd W → w.heap.size + 1 < W.heap.size → Rd W (w.heap.size + 1) xs 0 → Hid (Calls Tryd.prog 26 #[.pointer (some ⟨w.heap.size + 1, 0, none⟩)] W (CPost W (w.heap.size + 1) (cv r.u r.s r.k r.h r.n (strOfNums r.t)) r.l r.e)) := fun W hN hR hr => command_any _ W hN hR (by omega) xs 0 hr hx r hc
  clear hc
  obtain ⟨tx, htx⟩ : ∃ T, strOfNums r.t = T := ⟨_, rfl⟩
  rw [htx] at HC
  go_enter Tryd.func16, Tryd.ntmps16
  go_wp2_with fail
  have b0 := bx_new w 0 0 0 0 0 { data := #[] }
  have BW : Below w.heap.size w (w.alloc (.cells #[.int .i64 0, .int .i64 0, .int .i64 0, .int .i64 0, .int .i64 0, .string { data := #[] }] 23)) := (Below.refl _ _).alloc (Nat.le_refl _) _
  have Z0 : (w.alloc (.cells #[.int .i64 0, .int .i64 0, .int .i64 0, .int .i64 0, .int .i64 0, .string { data := #[] }] 23)).heap.size = w.heap.size + 1 := by simp
  generalize w.alloc (.cells #[.int .i64 0, .int .i64 0, .int .i64 0, .int .i64 0, .int .i64 0, .string { data := #[] }] 23) = V0 at *
  have hrd : (V0.alloc (.cells #[.slice A xs.length c, .int .i64 0] 45)).heap[V0.heap.size]? = some (.cells #[.slice A xs.length c, .int .i64 0] 45 (0, 0)) := heap_alloc_new V0 _
  rw [Z0] at hrd
  have Z1 : (V0.alloc (.cells #[.slice A xs.length c, .int .i64 0] 45)).heap.size = w.heap.size + 1 + 1 := by simp [Z0]
  have BW : Below w.heap.size w (V0.alloc (.cells #[.slice A xs.length c, .int .i64 0] 45)) := BW.alloc (by omega) _
  have b0 := b0.old (.cells #[.slice A xs.length c, .int .i64 0] 45)
  generalize V0.alloc (.cells #[.slice A xs.length c, .int .i64 0] 45) = V1 at *
  have N1 := hN.on BW
  have R1 : Rd V1 (w.heap.size + 1) xs 0 := ⟨A, c, hrd, (hs.below BW).mono (by omega), hcap, hl, hx⟩
  clear hrd hs
  refine (HC V1 N1 (by omega) R1).out.mono ?_
  rintro e w2 ⟨rfl, R2, B2⟩
  have q2 := B2.size
  have b2 : Bx w2 w.heap.size 0 0 0 0 0 { data := #[] } := (B2.block w.heap.size (by omega)).trans b0
  have BE : Below w.heap.size w w2 := BW.trans (B2.mono (by omega))
  have b3 := b2.old (.cells #[.int .i64 r.u, .int .i64 r.s, .int .i64 r.k, .int .i64 r.h, .int .i64 r.n, .string tx] 23)
  have R3 := R2.alloc (.cells #[.int .i64 r.u, .int .i64 r.s, .int .i64 r.k, .int .i64 r.h, .int .i64 r.n, .string tx] 23)
  have BE : Below w.heap.size w (w2.alloc (.cells #[.int .i64 r.u, .int .i64 r.s, .int .i64 r.k, .int .i64 r.h, .int .i64 r.n, .string tx] 23)) := BE.alloc (by omega) _
  have x2 := bx_new w2 r.u r.s r.k r.h r.n tx
  have N2 := hN.on BE
  have y1 : w.heap.size + 1 < w2.heap.size := by omega
  have y0 : w.heap.size < w2.heap.size := by omega
  have y3 : ¬ w2.heap.size = w.heap.size + 1 := by omega
  have y4 : ¬ w2.heap.size = w.heap.size := by omega
  obtain ⟨A2, c2, d0, d1, df0, df1, _, _⟩ := R2.at_
  rw [hlen] at d0
  go_wp2_with (fail)
  clear d0 d1 df0 df1
  generalize (w2.alloc (.cells #[.int .i64 r.u, .int .i64 r.s, .int .i64 r.k, .int .i64 r.h, .int .i64 r.n, .string tx] 23)) = V3 at *
  have HF := fail_any _ _ 2 _ V3 R3
  rw [hf] at HF
  refine HF.mono ?_
  rintro e w4 ⟨rfl, R4, O4⟩
  have b4 := b3.only O4 (by omega)
  have BE := BE.trans (O4.1.mono (by omega))
  obtain ⟨A2, c2, d0, d1, df0, df1, _, _⟩ := R4.at_
  obtain ⟨k0, k1, k2, k3, k4, k5⟩ := b4.cb
  have g0 := b4.free 0
  have g1 := b4.free 1
  have g2 := b4.free 2
  have g3 := b4.free 3
  have g4 := b4.free 4
  have g5 := b4.free 5
  go_wp2_with fail
  go_region
  go_wp2
  try simp only [Exit.inBlock, Exit.then]
  exact bodyPost_ret (run_res16 (B := w.heap.size) rfl rfl (Cb.drew (six b4 0 0 0 0 0 { data := #[] }).cb)) rfl ⟨rfl, (six_below BE (Nat.le_refl _) 0 0 0 0 0 { data := #[] }).drew⟩

theorem Rd.below {w w' : World} {R : Nat} {l : List Int} {e : Int} (h : Rd w R l e) (hb : Below w.heap.size w w') (hR : R < w.heap.size) : Rd w' R l e := by
  obtain ⟨A, c, hh, hs, hc⟩ := h
  exact ⟨A, c, (hb.block R hR).trans hh, hs.below (hb.mono (Nat.le_of_lt hR)), hc⟩

set_option maxHeartbeats 1000000 in
theorem get4_not (A : Option Addr) (c : Nat) (xs : List Int) (w : World) (hN : Nd w) (hl : xs.length ≤ 4611686018427387904) (hcap : xs.length ≤ c) (hs : Sl w w.heap.size .u8 A xs) (hx : ∀ x ∈ xs, 0 ≤ x ∧ x ≤ 255) (r : Co) (hc : cst xs 0 = r)
    (hlen : r.l.length = 0) (hmay : mayB r.u r.s r.k r.h r.n r.t.length = false) (f : Int) (hf : (if r.e = 0 then (2 : Int) else r.e) = f) (hf0 : (f == 0) = false) : Calls Tryd.prog 16 #[.slice A xs.length c] w (GPost w (noG f)) := by
  have HC : ∀ W, Nd W → w.heap.size + 1 < W.heap.size → Rd W (w.heap.size + 1) xs 0 → Hid (Calls Tryd.prog 26 #[.pointer (some ⟨w.heap.size + 1, 0, none⟩)] W (CPost W (w.heap.size + 1) (cv r.u r.s r.k r.h r.n (strOfNums r.t)) r.l r.e)) := fun W hN hR hr => command_any _ W hN hR (by omega) xs 0 hr hx r hc
  clear hc
  obtain ⟨tx, htx⟩ : ∃ T, strOfNums r.t = T := ⟨_, rfl⟩
  rw [htx] at HC
  have HM : ∀ W, Nd W → Hid (Calls Tryd.prog 12 #[cv r.u r.s r.k r.h r.n tx] W (BoolPost W false)) := fun W h' => by have := may_any r.u r.s r.k r.h r.n tx W h'; rw [show tx.size = r.t.length by rw [← htx, strOfNums_size], hmay] at this; exact this
  go_enter Tryd.func16, Tryd.ntmps16
  go_wp2_with fail
  have b0 := bx_new w 0 0 0 0 0 { data := #[] }
  have BW : Below w.heap.size w (w.alloc (.cells #[.int .i64 0, .int .i64 0, .int .i64 0, .int .i64 0, .int .i64 0, .string { data := #[] }] 23)) := (Below.refl _ _).alloc (Nat.le_refl _) _
  have Z0 : (w.alloc (.cells #[.int .i64 0, .int .i64 0, .int .i64 0, .int .i64 0, .int .i64 0, .string { data := #[] }] 23)).heap.size = w.heap.size + 1 := by simp
  generalize w.alloc (.cells #[.int .i64 0, .int .i64 0, .int .i64 0, .int .i64 0, .int .i64 0, .string { data := #[] }] 23) = V0 at *
  have hrd : (V0.alloc (.cells #[.slice A xs.length c, .int .i64 0] 45)).heap[V0.heap.size]? = some (.cells #[.slice A xs.length c, .int .i64 0] 45 (0, 0)) := heap_alloc_new V0 _
  rw [Z0] at hrd
  have Z1 : (V0.alloc (.cells #[.slice A xs.length c, .int .i64 0] 45)).heap.size = w.heap.size + 1 + 1 := by simp [Z0]
  have BW : Below w.heap.size w (V0.alloc (.cells #[.slice A xs.length c, .int .i64 0] 45)) := BW.alloc (by omega) _
  have b0 := b0.old (.cells #[.slice A xs.length c, .int .i64 0] 45)
  generalize V0.alloc (.cells #[.slice A xs.length c, .int .i64 0] 45) = V1 at *
  have N1 := hN.on BW
  have R1 : Rd V1 (w.heap.size + 1) xs 0 := ⟨A, c, hrd, (hs.below BW).mono (by omega), hcap, hl, hx⟩
  clear hrd hs
  refine (HC V1 N1 (by omega) R1).out.mono ?_
  rintro e w2 ⟨rfl, R2, B2⟩
  have q2 := B2.size
  have b2 : Bx w2 w.heap.size 0 0 0 0 0 { data := #[] } := (B2.block w.heap.size (by omega)).trans b0
  have BE : Below w.heap.size w w2 := BW.trans (B2.mono (by omega))
  have b3 := b2.old (.cells #[.int .i64 r.u, .int .i64 r.s, .int .i64 r.k, .int .i64 r.h, .int .i64 r.n, .string tx] 23)
  have R3 := R2.alloc (.cells #[.int .i64 r.u, .int .i64 r.s, .int .i64 r.k, .int .i64 r.h, .int .i64 r.n, .string tx] 23)
  have BE : Below w.heap.size w (w2.alloc (.cells #[.int .i64 r.u, .int .i64 r.s, .int .i64 r.k, .int .i64 r.h, .int .i64 r.n, .string tx] 23)) := BE.alloc (by omega) _
  have x2 := bx_new w2 r.u r.s r.k r.h r.n tx
  have N2 := hN.on BE
  have y1 : w.heap.size + 1 < w2.heap.size := by omega
  have y0 : w.heap.size < w2.heap.size := by omega
  have y3 : ¬ w2.heap.size = w.heap.size + 1 := by omega
  have y4 : ¬ w2.heap.size = w.heap.size := by omega
  obtain ⟨A2, c2, d0, d1, df0, df1, _, _⟩ := R2.at_
  rw [hlen] at d0
  go_wp2_with (fail)
  clear d0 d1 df0 df1
  have Y3 : (w2.alloc (.cells #[.int .i64 r.u, .int .i64 r.s, .int .i64 r.k, .int .i64 r.h, .int .i64 r.n, .string tx] 23)).heap.size = w2.heap.size + 1 := by simp
  generalize (w2.alloc (.cells #[.int .i64 r.u, .int .i64 r.s, .int .i64 r.k, .int .i64 r.h, .int .i64 r.n, .string tx] 23)) = V3 at *
  refine (HM V3 N2).out.mono ?_
  rintro e w3 ⟨rfl, B3⟩
  have q3 := B3.size
  have R4 : Rd w3 (w.heap.size + 1) r.l r.e := R3.below B3 (by omega)
  have b4 : Bx w3 w.heap.size 0 0 0 0 0 { data := #[] } := (B3.block w.heap.size (by omega)).trans b3
  have x4 : Bx w3 w2.heap.size r.u r.s r.k r.h r.n tx := (B3.block w2.heap.size (by omega)).trans x2
  have BE := BE.trans (B3.mono (by omega))
  go_wp2_with fail
  have HF := fail_any _ _ 2 _ w3 R4
  rw [hf] at HF
  refine HF.mono ?_
  rintro e w4 ⟨rfl, R4, O4⟩
  have b4 := b4.only O4 (by omega)
  have BE := BE.trans (O4.1.mono (by omega))
  obtain ⟨A2, c2, d0, d1, df0, df1, _, _⟩ := R4.at_
  obtain ⟨k0, k1, k2, k3, k4, k5⟩ := b4.cb
  have g0 := b4.free 0
  have g1 := b4.free 1
  have g2 := b4.free 2
  have g3 := b4.free 3
  have g4 := b4.free 4
  have g5 := b4.free 5
  go_wp2_with fail
  go_region
  go_wp2
  try simp only [Exit.inBlock, Exit.then]
  exact bodyPost_ret (run_res16 (B := w.heap.size) rfl rfl (Cb.drew (six b4 0 0 0 0 0 { data := #[] }).cb)) rfl ⟨rfl, (six_below BE (Nat.le_refl _) 0 0 0 0 0 { data := #[] }).drew⟩

set_option maxHeartbeats 1000000 in
theorem get4_err (A : Option Addr) (c : Nat) (xs : List Int) (w : World) (hN : Nd w) (hl : xs.length ≤ 4611686018427387904) (hcap : xs.length ≤ c) (hs : Sl w w.heap.size .u8 A xs) (hx : ∀ x ∈ xs, 0 ≤ x ∧ x ≤ 255) (r : Co) (hc : cst xs 0 = r)
    (hlen : r.l.length = 0) (hmay : mayB r.u r.s r.k r.h r.n r.t.length = true) (hf0 : (r.e == 0) = false) : Calls Tryd.prog 16 #[.slice A xs.length c] w (GPost w (noG r.e)) := by
  have HC : ∀ W, Nd W → w.heap.size + 1 < W.heap.size → Rd W (w.heap.size + 1) xs 0 → Hid (Calls Tryd.prog 26 #[.pointer (some ⟨w.heap.size + 1, 0, none⟩)] W (CPost W (w.heap.size + 1) (cv r.u r.s r.k r.h r.n (strOfNums r.t)) r.l r.e)) := fun W hN hR hr => command_any _ W hN hR (by omega) xs 0 hr hx r hc
  clear hc
  obtain ⟨tx, htx⟩ : ∃ T, strOfNums r.t = T := ⟨_, rfl⟩
  rw [htx] at HC
  have HM : ∀ W, Nd W → Hid (Calls Tryd.prog 12 #[cv r.u r.s r.k r.h r.n tx] W (BoolPost W true)) := fun W h' => by have := may_any r.u r.s r.k r.h r.n tx W h'; rw [show tx.size = r.t.length by rw [← htx, strOfNums_size], hmay] at this; exact this
  go_enter Tryd.func16, Tryd.ntmps16
  go_wp2_with fail
  have b0 := bx_new w 0 0 0 0 0 { data := #[] }
  have BW : Below w.heap.size w (w.alloc (.cells #[.int .i64 0, .int .i64 0, .int .i64 0, .int .i64 0, .int .i64 0, .string { data := #[] }] 23)) := (Below.refl _ _).alloc (Nat.le_refl _) _
  have Z0 : (w.alloc (.cells #[.int .i64 0, .int .i64 0, .int .i64 0, .int .i64 0, .int .i64 0, .string { data := #[] }] 23)).heap.size = w.heap.size + 1 := by simp
  generalize w.alloc (.cells #[.int .i64 0, .int .i64 0, .int .i64 0, .int .i64 0, .int .i64 0, .string { data := #[] }] 23) = V0 at *
  have hrd : (V0.alloc (.cells #[.slice A xs.length c, .int .i64 0] 45)).heap[V0.heap.size]? = some (.cells #[.slice A xs.length c, .int .i64 0] 45 (0, 0)) := heap_alloc_new V0 _
  rw [Z0] at hrd
  have Z1 : (V0.alloc (.cells #[.slice A xs.length c, .int .i64 0] 45)).heap.size = w.heap.size + 1 + 1 := by simp [Z0]
  have BW : Below w.heap.size w (V0.alloc (.cells #[.slice A xs.length c, .int .i64 0] 45)) := BW.alloc (by omega) _
  have b0 := b0.old (.cells #[.slice A xs.length c, .int .i64 0] 45)
  generalize V0.alloc (.cells #[.slice A xs.length c, .int .i64 0] 45) = V1 at *
  have N1 := hN.on BW
  have R1 : Rd V1 (w.heap.size + 1) xs 0 := ⟨A, c, hrd, (hs.below BW).mono (by omega), hcap, hl, hx⟩
  clear hrd hs
  refine (HC V1 N1 (by omega) R1).out.mono ?_
  rintro e w2 ⟨rfl, R2, B2⟩
  have q2 := B2.size
  have b2 : Bx w2 w.heap.size 0 0 0 0 0 { data := #[] } := (B2.block w.heap.size (by omega)).trans b0
  have BE : Below w.heap.size w w2 := BW.trans (B2.mono (by omega))
  have b3 := b2.old (.cells #[.int .i64 r.u, .int .i64 r.s, .int .i64 r.k, .int .i64 r.h, .int .i64 r.n, .string tx] 23)
  have R3 := R2.alloc (.cells #[.int .i64 r.u, .int .i64 r.s, .int .i64 r.k, .int .i64 r.h, .int .i64 r.n, .string tx] 23)
  have BE : Below w.heap.size w (w2.alloc (.cells #[.int .i64 r.u, .int .i64 r.s, .int .i64 r.k, .int .i64 r.h, .int .i64 r.n, .string tx] 23)) := BE.alloc (by omega) _
  have x2 := bx_new w2 r.u r.s r.k r.h r.n tx
  have N2 := hN.on BE
  have y1 : w.heap.size + 1 < w2.heap.size := by omega
  have y0 : w.heap.size < w2.heap.size := by omega
  have y3 : ¬ w2.heap.size = w.heap.size + 1 := by omega
  have y4 : ¬ w2.heap.size = w.heap.size := by omega
  obtain ⟨A2, c2, d0, d1, df0, df1, _, _⟩ := R2.at_
  rw [hlen] at d0
  go_wp2_with (fail)
  clear d0 d1 df0 df1
  have Y3 : (w2.alloc (.cells #[.int .i64 r.u, .int .i64 r.s, .int .i64 r.k, .int .i64 r.h, .int .i64 r.n, .string tx] 23)).heap.size = w2.heap.size + 1 := by simp
  generalize (w2.alloc (.cells #[.int .i64 r.u, .int .i64 r.s, .int .i64 r.k, .int .i64 r.h, .int .i64 r.n, .string tx] 23)) = V3 at *
  refine (HM V3 N2).out.mono ?_
  rintro e w3 ⟨rfl, B3⟩
  have q3 := B3.size
  have R4 : Rd w3 (w.heap.size + 1) r.l r.e := R3.below B3 (by omega)
  have b4 : Bx w3 w.heap.size 0 0 0 0 0 { data := #[] } := (B3.block w.heap.size (by omega)).trans b3
  have x4 : Bx w3 w2.heap.size r.u r.s r.k r.h r.n tx := (B3.block w2.heap.size (by omega)).trans x2
  have BE := BE.trans (B3.mono (by omega))
  obtain ⟨A2, c2, d0, d1, df0, df1, _, _⟩ := R4.at_
  obtain ⟨k0, k1, k2, k3, k4, k5⟩ := b4.cb
  have g0 := b4.free 0
  have g1 := b4.free 1
  have g2 := b4.free 2
  have g3 := b4.free 3
  have g4 := b4.free 4
  have g5 := b4.free 5
  go_wp2_with fail
  go_region
  go_wp2
  try simp only [Exit.inBlock, Exit.then]
  exact bodyPost_ret (run_res16 (B := w.heap.size) rfl rfl (Cb.drew (six b4 0 0 0 0 0 { data := #[] }).cb)) rfl ⟨rfl, (six_below BE (Nat.le_refl _) 0 0 0 0 0 { data := #[] }).drew⟩

set_option maxHeartbeats 1000000 in
theorem get4_ok (A : Option Addr) (c : Nat) (xs : List Int) (w : World) (hN : Nd w) (hl : xs.length ≤ 4611686018427387904) (hcap : xs.length ≤ c) (hs : Sl w w.heap.size .u8 A xs) (hx : ∀ x ∈ xs, 0 ≤ x ∧ x ≤ 255) (r : Co) (hc : cst xs 0 = r)
    (hlen : r.l.length = 0) (hmay : mayB r.u r.s r.k r.h r.n r.t.length = true) (hf0 : r.e = 0) : Calls Tryd.prog 16 #[.slice A xs.length c] w (GPost w ⟨r.u, r.s, r.k, r.h, r.n, r.t, 0⟩) := by
  have HC : ∀ W, Nd W → w.heap.size + 1 < W.heap.size → Rd W (w.heap.size + 1) xs 0 → Hid (Calls Tryd.prog 26 #[.pointer (some ⟨w.heap.size + 1, 0, none⟩)] W (CPost W (w.heap.size + 1) (cv r.u r.s r.k r.h r.n (strOfNums r.t)) r.l r.e)) := fun W hN hR hr => command_any _ W hN hR (by omega) xs 0 hr hx r hc
  clear hc
  obtain ⟨tx, htx⟩ : ∃ T, strOfNums r.t = T := ⟨_, rfl⟩
  rw [htx] at HC
  have HM : ∀ W, Nd W → Hid (Calls Tryd.prog 12 #[cv r.u r.s r.k r.h r.n tx] W (BoolPost W true)) := fun W h' => by have := may_any r.u r.s r.k r.h r.n tx W h'; rw [show tx.size = r.t.length by rw [← htx, strOfNums_size], hmay] at this; exact this
  go_enter Tryd.func16, Tryd.ntmps16
  go_wp2_with fail
  have b0 := bx_new w 0 0 0 0 0 { data := #[] }
  have BW : Below w.heap.size w (w.alloc (.cells #[.int .i64 0, .int .i64 0, .int .i64 0, .int .i64 0, .int .i64 0, .string { data := #[] }] 23)) := (Below.refl _ _).alloc (Nat.le_refl _) _
  have Z0 : (w.alloc (.cells #[.int .i64 0, .int .i64 0, .int .i64 0, .int .i64 0, .int .i64 0, .string { data := #[] }] 23)).heap.size = w.heap.size + 1 := by simp
  generalize w.alloc (.cells #[.int .i64 0, .int .i64 0, .int .i64 0, .int .i64 0, .int .i64 0, .string { data := #[] }] 23) = V0 at *
  have hrd : (V0.alloc (.cells #[.slice A xs.length c, .int .i64 0] 45)).heap[V0.heap.size]? = some (.cells #[.slice A xs.length c, .int .i64 0] 45 (0, 0)) := heap_alloc_new V0 _
  rw [Z0] at hrd
  have Z1 : (V0.alloc (.cells #[.slice A xs.length c, .int .i64 0] 45)).heap.size = w.heap.size + 1 + 1 := by simp [Z0]
  have BW : Below w.heap.size w (V0.alloc (.cells #[.slice A xs.length c, .int .i64 0] 45)) := BW.alloc (by omega) _
  have b0 := b0.old (.cells #[.slice A xs.length c, .int .i64 0] 45)
  generalize V0.alloc (.cells #[.slice A xs.length c, .int .i64 0] 45) = V1 at *
  have N1 := hN.on BW
  have R1 : Rd V1 (w.heap.size + 1) xs 0 := ⟨A, c, hrd, (hs.below BW).mono (by omega), hcap, hl, hx⟩
  clear hrd hs
  refine (HC V1 N1 (by omega) R1).out.mono ?_
  rintro e w2 ⟨rfl, R2, B2⟩
  have q2 := B2.size
  have b2 : Bx w2 w.heap.size 0 0 0 0 0 { data := #[] } := (B2.block w.heap.size (by omega)).trans b0
  have BE : Below w.heap.size w w2 := BW.trans (B2.mono (by omega))
  have b3 := b2.old (.cells #[.int .i64 r.u, .int .i64 r.s, .int .i64 r.k, .int .i64 r.h, .int .i64 r.n, .string tx] 23)
  have R3 := R2.alloc (.cells #[.int .i64 r.u, .int .i64 r.s, .int .i64 r.k, .int .i64 r.h, .int .i64 r.n, .string tx] 23)
  have BE : Below w.heap.size w (w2.alloc (.cells #[.int .i64 r.u, .int .i64 r.s, .int .i64 r.k, .int .i64 r.h, .int .i64 r.n, .string tx] 23)) := BE.alloc (by omega) _
  have x2 := bx_new w2 r.u r.s r.k r.h r.n tx
  have N2 := hN.on BE
  have y1 : w.heap.size + 1 < w2.heap.size := by omega
  have y0 : w.heap.size < w2.heap.size := by omega
  have y3 : ¬ w2.heap.size = w.heap.size + 1 := by omega
  have y4 : ¬ w2.heap.size = w.heap.size := by omega
  obtain ⟨A2, c2, d0, d1, df0, df1, _, _⟩ := R2.at_
  rw [hlen] at d0
  go_wp2_with (fail)
  clear d0 d1 df0 df1
  have Y3 : (w2.alloc (.cells #[.int .i64 r.u, .int .i64 r.s, .int .i64 r.k, .int .i64 r.h, .int .i64 r.n, .string tx] 23)).heap.size = w2.heap.size + 1 := by simp
  generalize (w2.alloc (.cells #[.int .i64 r.u, .int .i64 r.s, .int .i64 r.k, .int .i64 r.h, .int .i64 r.n, .string tx] 23)) = V3 at *
  refine (HM V3 N2).out.mono ?_
  rintro e w3 ⟨rfl, B3⟩
  have q3 := B3.size
  have R4 : Rd w3 (w.heap.size + 1) r.l r.e := R3.below B3 (by omega)
  have b4 : Bx w3 w.heap.size 0 0 0 0 0 { data := #[] } := (B3.block w.heap.size (by omega)).trans b3
  have x4 : Bx w3 w2.heap.size r.u r.s r.k r.h r.n tx := (B3.block w2.heap.size (by omega)).trans x2
  have BE := BE.trans (B3.mono (by omega))
  rw [hf0] at R4
  obtain ⟨A2, c2, d0, d1, df0, df1, _, _⟩ := R4.at_
  obtain ⟨k0, k1, k2, k3, k4, k5⟩ := b4.cb
  have g0 := b4.free 0
  have g1 := b4.free 1
  have g2 := b4.free 2
  have g3 := b4.free 3
  have g4 := b4.free 4
  have g5 := b4.free 5
  obtain ⟨x0, x1, x2, x3, x4', x5⟩ := x4.cb
  go_wp2
  try simp only [Exit.inBlock, Exit.then]
  exact bodyPost_ret (run_res16 (B := w.heap.size) rfl rfl (six b4 r.u r.s r.k r.h r.n tx).cb) rfl ⟨by show Ending.returned _ = Ending.returned (.tuple #[cv r.u r.s r.k r.h r.n (strOfNums r.t), .int .i64 0]); rw [htx]; rfl, six_below BE (Nat.le_refl _) r.u r.s r.k r.h r.n tx⟩

theorem get4_any (A : Option Addr) (c : Nat) (xs : List Int) (w : World) (hN : Nd w) (hl : xs.length ≤ 4611686018427387904) (hcap : xs.length ≤ c) (hs : Sl w w.heap.size .u8 A xs) (hx : ∀ x ∈ xs, 0 ≤ x ∧ x ≤ 255) (g : G) (hg : cg xs = g) :
    Calls Tryd.prog 16 #[.slice A xs.length c] w (GPost w g) := by
  subst hg
  rw [← cg_cst, gfin]
  generalize hc : cst xs 0 = r
  by_cases hm : r.l.length = 0
  · have hl0 : r.l = [] := List.length_eq_zero_iff.1 hm
    cases hmay : mayB r.u r.s r.k r.h r.n r.t.length
    · by_cases he : r.e = 0
      · rw [if_neg (fun h => h he), fin, if_pos (.inr hmay)]
        exact get4_not A c xs w hN hl hcap hs hx r hc hm hmay 2 (by rw [if_pos he]) (by decide)
      · rw [if_pos he]
        exact get4_not A c xs w hN hl hcap hs hx r hc hm hmay r.e (by rw [if_neg he]) (by rw [beq_eq_false_iff_ne]; exact he)
    · by_cases he : r.e = 0
      · rw [if_neg (fun h => h he), hl0, fin_ok hmay]
        exact get4_ok A c xs w hN hl hcap hs hx r hc hm hmay he
      · rw [if_pos he]
        exact get4_err A c xs w hN hl hcap hs hx r hc hm hmay (by rw [beq_eq_false_iff_ne]; exact he)
  · have hl0 : r.l ≠ [] := fun h => hm (by rw [h]; rfl)
    by_cases he : r.e = 0
    · rw [if_neg (fun h => h he), fin_more hl0]
      exact get4_more A c xs w hN hl hcap hs hx r hc _ rfl (by omega) 2 (by rw [if_pos he]) (by decide)
    · rw [if_pos he]
      exact get4_more A c xs w hN hl hcap hs hx r hc _ rfl (by omega) r.e (by rw [if_neg he]) (by rw [beq_eq_false_iff_ne]; exact he)

end Go.Proofs.YteajbcngimccmaaDoor
