/-
  Whether any ballot may be, how any two compare, the next one of any, and the greatest of any ones, is what the document says: BallotTells answers true whatever the two ballots, the number and the slice of ballots; they read as they did. Conditions: none.
-/
import Derived.Test.YtnlpfapfijckiaaOpen
import Derived.Test.YtnlpfapfijckiaaRmo
import Derived.Deep.RegionLaw
import Derived.Deep.AppendLies
namespace Go.Proofs.Ytnlpfapfijckiaa.ballotTells
open Go.ChangeShapes Go.WideShapes Go.ChangeAt Go.RowKit
set_option linter.unusedVariables false
set_option linter.unusedSimpArgs false
attribute [local go_sem ↓ high] eq23 guard23 neq23 guard23n

theorem long (a0 b0 : Int) (a1 b1 : Int) (a2 : Int) (A3 : Option Addr) (c3 : Nat) (x3 : List (Int × Int)) (w : World) (s3 : Bs w w.heap.size A3 x3) (m3 : x3.length ≤ c3) (hl : (100 : Int) < (x3.length : Int)) : Calls Try.prog 3 #[.agg #[.int .i64 a0, .int .i64 b0], .agg #[.int .i64 a1, .int .i64 b1], .int .i64 a2, .slice A3 x3.length c3] w (UpPost w) := by
  go_enter Try.func3, Try.ntmps3
  go_wp2_with fail
  have BW : Below w.heap.size w ((w.alloc (.cells #[.int .i64 a0, .int .i64 b0] 23)).alloc (.cells #[.int .i64 a1, .int .i64 b1] 23)) := ((Below.refl _ _).alloc (Nat.le_refl _) _).alloc (by simp) _
  have Z0 : ((w.alloc (.cells #[.int .i64 a0, .int .i64 b0] 23)).alloc (.cells #[.int .i64 a1, .int .i64 b1] 23)).heap.size = w.heap.size + 1 + 1 := by simp
  have C0 : Bb ((w.alloc (.cells #[.int .i64 a0, .int .i64 b0] 23)).alloc (.cells #[.int .i64 a1, .int .i64 b1] 23)) (w.heap.size) a0 b0 := by
    have := ((bx_new w a0 b0).old (.cells #[.int .i64 a1, .int .i64 b1] 23)).bb
    exact this
  have C1 : Bb ((w.alloc (.cells #[.int .i64 a0, .int .i64 b0] 23)).alloc (.cells #[.int .i64 a1, .int .i64 b1] 23)) (w.heap.size + 1) a1 b1 := by
    have := (bx_new (w.alloc (.cells #[.int .i64 a0, .int .i64 b0] 23)) a1 b1).bb
    rw [show (w.alloc (.cells #[.int .i64 a0, .int .i64 b0] 23)).heap.size = w.heap.size + 1 by simp] at this
    exact this
  have Y3 := s3.up BW
  generalize ((w.alloc (.cells #[.int .i64 a0, .int .i64 b0] 23)).alloc (.cells #[.int .i64 a1, .int .i64 b1] 23)) = W0 at *
  refine (awake_any W0).mono ?_
  rintro e w1 ⟨rfl, B1⟩
  have q1 := B1.size
  have B01 := B1
  have BE := BW.trans (B01.mono BW.size)
  go_wp2
  go_ret
  exact ⟨rfl, BE⟩

set_option maxHeartbeats 4000000 in
theorem rest (n1 n2 r mx my : Int) (nq k : Bool) (a0 b0 : Int) (a1 b1 : Int) (a2 : Int) (A3 : Option Addr) (c3 : Nat) (x3 : List (Int × Int)) (w : World) (s3 : Bs w w.heap.size A3 x3) (m3 : x3.length ≤ c3) (hl : ¬ (100 : Int) < (x3.length : Int))
    (HN : ∀ W, Hid (Calls Try.prog 9 #[.agg #[.int .i64 a0, .int .i64 b0], .int .i64 a2] W (NextPost W n1 n2 nq))) (HR : ∀ W, Hid (Calls Try.prog 10 #[.agg #[.int .i64 a0, .int .i64 b0], .int .i64 a2] W (NextPost W n1 n2 nq)))
    (HM : ∀ W, Hid (Calls Try.prog 11 #[.agg #[.int .i64 a0, .int .i64 b0]] W (BoolPost W k))) (HQ : ∀ W, Hid (Calls Try.prog 12 #[.agg #[.int .i64 a0, .int .i64 b0]] W (BoolPost W k))) (HC : ∀ W, Hid (Calls Try.prog 13 #[.agg #[.int .i64 a0, .int .i64 b0], .agg #[.int .i64 a1, .int .i64 b1]] W (IntPost W r))) (HD : ∀ W, Hid (Calls Try.prog 14 #[.agg #[.int .i64 a0, .int .i64 b0], .agg #[.int .i64 a1, .int .i64 b1]] W (IntPost W r))) (HO : ∀ W, Bs W W.heap.size A3 x3 → Hid (Calls Try.prog 15 #[.slice A3 x3.length c3] W (BalPost W mx my))) (HP : ∀ W, Bs W W.heap.size A3 x3 → Hid (Calls Try.prog 16 #[.slice A3 x3.length c3] W (BalPost W mx my))) (HF : ∀ W, Hid (Calls Try.prog 17 #[.int .i64 a2] W (BalPost W 0 a2))) :
    Calls Try.prog 3 #[.agg #[.int .i64 a0, .int .i64 b0], .agg #[.int .i64 a1, .int .i64 b1], .int .i64 a2, .slice A3 x3.length c3] w (UpPost w) := by
  go_enter Try.func3, Try.ntmps3
  go_wp2_with fail
  have BW : Below w.heap.size w ((w.alloc (.cells #[.int .i64 a0, .int .i64 b0] 23)).alloc (.cells #[.int .i64 a1, .int .i64 b1] 23)) := ((Below.refl _ _).alloc (Nat.le_refl _) _).alloc (by simp) _
  have Z0 : ((w.alloc (.cells #[.int .i64 a0, .int .i64 b0] 23)).alloc (.cells #[.int .i64 a1, .int .i64 b1] 23)).heap.size = w.heap.size + 1 + 1 := by simp
  have C0 : Bb ((w.alloc (.cells #[.int .i64 a0, .int .i64 b0] 23)).alloc (.cells #[.int .i64 a1, .int .i64 b1] 23)) (w.heap.size) a0 b0 := by
    have := ((bx_new w a0 b0).old (.cells #[.int .i64 a1, .int .i64 b1] 23)).bb
    exact this
  have C1 : Bb ((w.alloc (.cells #[.int .i64 a0, .int .i64 b0] 23)).alloc (.cells #[.int .i64 a1, .int .i64 b1] 23)) (w.heap.size + 1) a1 b1 := by
    have := (bx_new (w.alloc (.cells #[.int .i64 a0, .int .i64 b0] 23)) a1 b1).bb
    rw [show (w.alloc (.cells #[.int .i64 a0, .int .i64 b0] 23)).heap.size = w.heap.size + 1 by simp] at this
    exact this
  have Y3 := s3.up BW
  generalize ((w.alloc (.cells #[.int .i64 a0, .int .i64 b0] 23)).alloc (.cells #[.int .i64 a1, .int .i64 b1] 23)) = W0 at *
  refine (awake_any W0).mono ?_
  rintro e w1 ⟨rfl, B1⟩
  have q1 := B1.size
  have B01 := B1
  clear s3 m3
  obtain ⟨pC0, rC0⟩ := C0.on B01 (by omega)
  obtain ⟨pC1, rC1⟩ := C1.on B01 (by omega)
  go_wp2_with fail
  clear pC0 rC0 pC1 rC1
  refine (HN _).out.mono ?_
  rintro e w2 ⟨rfl, B2⟩
  have q2 := B2.size
  have B02 := B01.trans (B2.mono (by omega))
  have CX := (bx_new w2 n1 n2).bb
  have Q2 := B02.trans ((one_below w2 n1 n2).mono (by omega))
  have t2 := Q2.size
  have D0 := C0.on Q2 (by omega)
  have D1 := C1.on Q2 (by omega)
  have zx := CX.lt
  clear HN C0 C1
  obtain ⟨pC0, rC0⟩ := id D0
  go_wp2_with fail
  clear pC0 rC0
  generalize w2.alloc (.cells #[.int .i64 n1, .int .i64 n2] 23) = W2 at *
  have t0 := Z0
  clear Z0
  refine (HR _).out.mono ?_
  rintro e w4 ⟨rfl, B4⟩
  have q4 := B4.size
  have CY := (bx_new w4 n1 n2).bb
  have N4 := one_below w4 n1 n2
  have B5 := B4.trans (N4.mono q4)
  have C0 := D0.on B5 (by omega)
  have C1 := D1.on B5 (by omega)
  have CZ := CX.on B5 zx
  have B05 := Q2.trans (B5.mono t2)
  have BE := BW.trans (B05.mono BW.size)
  have Y := Y3.up B05
  have uu := B05.size
  clear D0 D1 CX zx HR Y3 B01 B1 B2 B02 Q2 B4 N4 B5
  obtain ⟨pC0, rC0⟩ := id C0
  obtain ⟨pC1, rC1⟩ := id C1
  obtain ⟨pCZ, rCZ⟩ := id CZ
  obtain ⟨pCY, rCY⟩ := id CY
  go_wp2_with fail
  clear pC0 rC0 pC1 rC1 pCZ rCZ pCY rCY
  generalize hW : w4.alloc (.cells #[.int .i64 n1, .int .i64 n2] 23) = W5 at *
  clear hW
  have zC0 : w.heap.size < W5.heap.size := C0.lt
  have zC1 : w.heap.size + 1 < W5.heap.size := C1.lt
  have zCZ : w2.heap.size < W5.heap.size := CZ.lt
  have zCY : w4.heap.size < W5.heap.size := CY.lt
  have S0 : Bb W5 (w.heap.size) a0 b0 ∧ Bb W5 (w.heap.size + 1) a1 b1 ∧ Bb W5 (w2.heap.size) n1 n2 ∧ Bb W5 (w4.heap.size) n1 n2 ∧ Below W5.heap.size W5 W5 := ⟨C0, C1, CZ, CY, Below.refl _ _⟩
  have KB : ∀ v v', Below W5.heap.size v v' → (Bb v (w.heap.size) a0 b0 ∧ Bb v (w.heap.size + 1) a1 b1 ∧ Bb v (w2.heap.size) n1 n2 ∧ Bb v (w4.heap.size) n1 n2 ∧ Below W5.heap.size W5 v) → (Bb v' (w.heap.size) a0 b0 ∧ Bb v' (w.heap.size + 1) a1 b1 ∧ Bb v' (w2.heap.size) n1 n2 ∧ Bb v' (w4.heap.size) n1 n2 ∧ Below W5.heap.size W5 v') := fun v v' hb hS => ⟨hS.1.on hb zC0, hS.2.1.on hb zC1, hS.2.2.1.on hb zCZ, hS.2.2.2.1.on hb zCY, hS.2.2.2.2.trans hb⟩
  have KD : Hid (∀ v, (Bb v (w.heap.size) a0 b0 ∧ Bb v (w.heap.size + 1) a1 b1 ∧ Bb v (w2.heap.size) n1 n2 ∧ Bb v (w4.heap.size) n1 n2 ∧ Below W5.heap.size W5 v) → (Bb v.drew (w.heap.size) a0 b0 ∧ Bb v.drew (w.heap.size + 1) a1 b1 ∧ Bb v.drew (w2.heap.size) n1 n2 ∧ Bb v.drew (w4.heap.size) n1 n2 ∧ Below W5.heap.size W5 v.drew)) := fun v hS => KB _ _ (Below.refl _ _).drew hS
  have KS : Hid (∀ v v', Below v.heap.size v v' → (Bb v (w.heap.size) a0 b0 ∧ Bb v (w.heap.size + 1) a1 b1 ∧ Bb v (w2.heap.size) n1 n2 ∧ Bb v (w4.heap.size) n1 n2 ∧ Below W5.heap.size W5 v) → (Bb v' (w.heap.size) a0 b0 ∧ Bb v' (w.heap.size + 1) a1 b1 ∧ Bb v' (w2.heap.size) n1 n2 ∧ Bb v' (w4.heap.size) n1 n2 ∧ Below W5.heap.size W5 v')) := fun v v' hb hS => KB _ _ (hb.mono hS.2.2.2.2.size) hS
  clear KB
  have GM : ∀ W, (Bb W (w.heap.size) a0 b0 ∧ Bb W (w.heap.size + 1) a1 b1 ∧ Bb W (w2.heap.size) n1 n2 ∧ Bb W (w4.heap.size) n1 n2 ∧ Below W5.heap.size W5 W) → Hid (Calls Try.prog 11 #[.agg #[.int .i64 a0, .int .i64 b0]] W (BoolPost W k)) := fun W hS => HM W
  have GQ : ∀ W, (Bb W (w.heap.size) a0 b0 ∧ Bb W (w.heap.size + 1) a1 b1 ∧ Bb W (w2.heap.size) n1 n2 ∧ Bb W (w4.heap.size) n1 n2 ∧ Below W5.heap.size W5 W) → Hid (Calls Try.prog 12 #[.agg #[.int .i64 a0, .int .i64 b0]] W (BoolPost W k)) := fun W hS => HQ W
  have GC : ∀ W, (Bb W (w.heap.size) a0 b0 ∧ Bb W (w.heap.size + 1) a1 b1 ∧ Bb W (w2.heap.size) n1 n2 ∧ Bb W (w4.heap.size) n1 n2 ∧ Below W5.heap.size W5 W) → Hid (Calls Try.prog 13 #[.agg #[.int .i64 a0, .int .i64 b0], .agg #[.int .i64 a1, .int .i64 b1]] W (IntPost W r)) := fun W hS => HC W
  have GD : ∀ W, (Bb W (w.heap.size) a0 b0 ∧ Bb W (w.heap.size + 1) a1 b1 ∧ Bb W (w2.heap.size) n1 n2 ∧ Bb W (w4.heap.size) n1 n2 ∧ Below W5.heap.size W5 W) → Hid (Calls Try.prog 14 #[.agg #[.int .i64 a0, .int .i64 b0], .agg #[.int .i64 a1, .int .i64 b1]] W (IntPost W r)) := fun W hS => HD W
  have GO : ∀ W, (Bb W (w.heap.size) a0 b0 ∧ Bb W (w.heap.size + 1) a1 b1 ∧ Bb W (w2.heap.size) n1 n2 ∧ Bb W (w4.heap.size) n1 n2 ∧ Below W5.heap.size W5 W) → Hid (Calls Try.prog 15 #[.slice A3 x3.length c3] W (BalPost W mx my)) := fun W hS => HO W (Y.up hS.2.2.2.2)
  have GP : ∀ W, (Bb W (w.heap.size) a0 b0 ∧ Bb W (w.heap.size + 1) a1 b1 ∧ Bb W (w2.heap.size) n1 n2 ∧ Bb W (w4.heap.size) n1 n2 ∧ Below W5.heap.size W5 W) → Hid (Calls Try.prog 16 #[.slice A3 x3.length c3] W (BalPost W mx my)) := fun W hS => HP W (Y.up hS.2.2.2.2)
  have GF : ∀ W, (Bb W (w.heap.size) a0 b0 ∧ Bb W (w.heap.size + 1) a1 b1 ∧ Bb W (w2.heap.size) n1 n2 ∧ Bb W (w4.heap.size) n1 n2 ∧ Below W5.heap.size W5 W) → Hid (Calls Try.prog 17 #[.int .i64 a2] W (BalPost W 0 a2)) := fun W hS => HF W
  clear HM HQ HC HD HO HP HF Y q1 q2 t2 q4 t0 uu
  obtain ⟨pC0, rC0⟩ := id C0
  obtain ⟨pC1, rC1⟩ := id C1
  obtain ⟨pCZ, rCZ⟩ := id CZ
  obtain ⟨pCY, rCY⟩ := id CY
  clear C0 C1 CZ CY
  refine wp_region_held_drew (S := fun v => (v.cell? ⟨w.heap.size, 0, none⟩ = some (.int .i64 a0) ∧ v.cell? ⟨w.heap.size, 1, none⟩ = some (.int .i64 b0)) ∧ (v.cell? ⟨w.heap.size + 1, 0, none⟩ = some (.int .i64 a1) ∧ v.cell? ⟨w.heap.size + 1, 1, none⟩ = some (.int .i64 b1)) ∧ (v.cell? ⟨w2.heap.size, 0, none⟩ = some (.int .i64 n1) ∧ v.cell? ⟨w2.heap.size, 1, none⟩ = some (.int .i64 n2)) ∧ (v.cell? ⟨w4.heap.size, 0, none⟩ = some (.int .i64 n1) ∧ v.cell? ⟨w4.heap.size, 1, none⟩ = some (.int .i64 n2)) ∧ Below W5.heap.size W5 v) (by kernel_rfl) (KD.out _ S0) (fun hH => ?_)
  refine wpAnyH_take (i := 0) (v := ?v1) rfl (by kernel_rfl) (by kernel_rfl) (by kernel_rfl) (fun _ _ _ h => h) (Or.inl ⟨by rfl, ?hy1⟩) hH ?rest1
  case hy1 => (intro w hSw; (try dsimp only at hSw); go_simp; try with_reducible rfl)
  try simp only [Act.put, List.setIfInBounds_toArray, List.set_cons_zero, List.set_cons_succ, List.getElem_toArray, List.getElem_cons_zero, List.getElem_cons_succ]
  refine wpAnyH_take (i := 1) (v := ?v2) rfl (by kernel_rfl) (by kernel_rfl) (by kernel_rfl) (fun _ _ _ h => h) (Or.inl ⟨by rfl, ?hy2⟩) hH ?rest2
  case hy2 => (intro w hSw; (try dsimp only at hSw); go_simp; try with_reducible rfl)
  try simp only [Act.put, List.setIfInBounds_toArray, List.set_cons_zero, List.set_cons_succ, List.getElem_toArray, List.getElem_cons_zero, List.getElem_cons_succ]
  refine wpAnyH_take (i := 2) (v := ?v3) rfl (by kernel_rfl) (by kernel_rfl) (by kernel_rfl) (fun _ _ _ h => h) (Or.inl ⟨by rfl, ?hy3⟩) hH ?rest3
  case hy3 => (intro w hSw; (try dsimp only at hSw); go_simp; try with_reducible rfl)
  try simp only [Act.put, List.setIfInBounds_toArray, List.set_cons_zero, List.set_cons_succ, List.getElem_toArray, List.getElem_cons_zero, List.getElem_cons_succ]
  refine wpAnyH_take (i := 3) (v := ?v4) rfl (by kernel_rfl) (by kernel_rfl) (by kernel_rfl) (fun _ _ _ h => h) (Or.inl ⟨by rfl, ?hy4⟩) hH ?rest4
  case hy4 => (intro w hSw; (try dsimp only at hSw); go_simp; try with_reducible rfl)
  try simp only [Act.put, List.setIfInBounds_toArray, List.set_cons_zero, List.set_cons_succ, List.getElem_toArray, List.getElem_cons_zero, List.getElem_cons_succ]
  refine wpAnyH_take (i := 4) (v := ?v5) rfl (by kernel_rfl) (by kernel_rfl) (by kernel_rfl) (fun _ _ _ h => h) (Or.inl ⟨by rfl, ?hy5⟩) hH ?rest5
  case hy5 => (intro w hSw; (try dsimp only at hSw); go_simp; try with_reducible rfl)
  try simp only [Act.put, List.setIfInBounds_toArray, List.set_cons_zero, List.set_cons_succ, List.getElem_toArray, List.getElem_cons_zero, List.getElem_cons_succ]
  refine wpAnyH_take (i := 5) (v := ?v6) rfl (by kernel_rfl) (by kernel_rfl) (by kernel_rfl) (fun _ _ _ h => h) (Or.inl ⟨by rfl, ?hy6⟩) hH ?rest6
  case hy6 => (intro w hSw; (try dsimp only at hSw); go_simp; try with_reducible rfl)
  try simp only [Act.put, List.setIfInBounds_toArray, List.set_cons_zero, List.set_cons_succ, List.getElem_toArray, List.getElem_cons_zero, List.getElem_cons_succ]
  refine wpAnyH_take (i := 6) (v := ?v7) rfl (by kernel_rfl) (by kernel_rfl) (by kernel_rfl) (fun _ _ _ h => h) (Or.inl ⟨by rfl, ?hy7⟩) hH ?rest7
  case hy7 => (intro w hSw; (try dsimp only at hSw); go_simp; try with_reducible rfl)
  try simp only [Act.put, List.setIfInBounds_toArray, List.set_cons_zero, List.set_cons_succ, List.getElem_toArray, List.getElem_cons_zero, List.getElem_cons_succ]
  refine wpAnyH_take (i := 7) (v := ?v8) rfl (by kernel_rfl) (by kernel_rfl) (by kernel_rfl) (fun _ _ _ h => h) (Or.inl ⟨by rfl, ?hy8⟩) hH ?rest8
  case hy8 => (intro w hSw; (try dsimp only at hSw); go_simp; try with_reducible rfl)
  try simp only [Act.put, List.setIfInBounds_toArray, List.set_cons_zero, List.set_cons_succ, List.getElem_toArray, List.getElem_cons_zero, List.getElem_cons_succ]
  refine wpAnyH_take (i := 8) (v := ?v9) rfl (by kernel_rfl) (by kernel_rfl) (by kernel_rfl) (fun _ _ _ h => h) (Or.inl ⟨by rfl, ?hy9⟩) hH ?rest9
  case hy9 => (intro w hSw; (try dsimp only at hSw); go_simp; try with_reducible rfl)
  try simp only [Act.put, List.setIfInBounds_toArray, List.set_cons_zero, List.set_cons_succ, List.getElem_toArray, List.getElem_cons_zero, List.getElem_cons_succ]
  refine wpAnyH_take (i := 9) (v := ?v10) rfl (by kernel_rfl) (by kernel_rfl) (by kernel_rfl) (fun _ _ _ h => h) (Or.inl ⟨by rfl, ?hy10⟩) hH ?rest10
  case hy10 => (intro w hSw; (try dsimp only at hSw); go_simp; try with_reducible rfl)
  try simp only [Act.put, List.setIfInBounds_toArray, List.set_cons_zero, List.set_cons_succ, List.getElem_toArray, List.getElem_cons_zero, List.getElem_cons_succ]
  refine wpAnyH_take (i := 11) (v := ?v11) rfl (by kernel_rfl) (by kernel_rfl) (by kernel_rfl) (fun _ _ _ h => h) (Or.inl ⟨by rfl, ?hy11⟩) hH ?rest11
  case hy11 => (intro w hSw; (try dsimp only at hSw); go_simp; try with_reducible rfl)
  try simp only [Act.put, List.setIfInBounds_toArray, List.set_cons_zero, List.set_cons_succ, List.getElem_toArray, List.getElem_cons_zero, List.getElem_cons_succ]
  refine wpAnyH_ready (rs := [10]) (by kernel_rfl) (by simp) ?_
  refine AllReadyH.cons rfl (fun K hK => ?_) AllReadyH.nil
  go_simp
  go_at_call 11
  have hGM := GM _ hH
  with_reducible refine hGM.out.mono ?_
  clear hGM
  rintro e wqM ⟨rfl, hbM⟩
  go_wp2_with fail
  refine hK.out _ _ (KS.out _ _ hbM hH) (fun hH2 => ?_)
  clear hK K hH
  have hH := hH2
  clear hH2
  try simp only [Act.put, List.setIfInBounds_toArray, List.set_cons_zero, List.set_cons_succ, List.getElem_toArray, List.getElem_cons_zero, List.getElem_cons_succ]
  refine wpAnyH_ready (rs := [12]) (by kernel_rfl) (by simp) ?_
  refine AllReadyH.cons rfl (fun K hK => ?_) AllReadyH.nil
  go_simp
  go_at_call 12
  have hGQ := GQ _ hH
  with_reducible refine hGQ.out.mono ?_
  clear hGQ
  rintro e wqQ ⟨rfl, hbQ⟩
  go_wp2_with fail
  refine hK.out _ _ (KS.out _ _ hbQ hH) (fun hH2 => ?_)
  clear hK K hH
  have hH := hH2
  clear hH2
  try simp only [Act.put, List.setIfInBounds_toArray, List.set_cons_zero, List.set_cons_succ, List.getElem_toArray, List.getElem_cons_zero, List.getElem_cons_succ]
  refine wpAnyH_take (i := 13) (v := ?v12) rfl (by kernel_rfl) (by kernel_rfl) (by kernel_rfl) (fun _ _ _ h => h) (Or.inl ⟨by rfl, ?hy12⟩) hH ?rest12
  case hy12 => (intro w hSw; (try dsimp only at hSw); go_simp; try with_reducible rfl)
  try simp only [Act.put, List.setIfInBounds_toArray, List.set_cons_zero, List.set_cons_succ, List.getElem_toArray, List.getElem_cons_zero, List.getElem_cons_succ]
  refine wpAnyH_take (i := 14) (v := ?v13) rfl (by kernel_rfl) (by kernel_rfl) (by kernel_rfl) (fun _ _ _ h => h) (Or.inl ⟨by rfl, ?hy13⟩) hH ?rest13
  case hy13 => (intro w hSw; (try dsimp only at hSw); go_simp; try with_reducible rfl)
  try simp only [Act.put, List.setIfInBounds_toArray, List.set_cons_zero, List.set_cons_succ, List.getElem_toArray, List.getElem_cons_zero, List.getElem_cons_succ]
  refine wpAnyH_take (i := 15) (v := ?v14) rfl (by kernel_rfl) (by kernel_rfl) (by kernel_rfl) (fun _ _ _ h => h) (Or.inl ⟨by rfl, ?hy14⟩) hH ?rest14
  case hy14 => (intro w hSw; (try dsimp only at hSw); go_simp; try with_reducible rfl)
  try simp only [Act.put, List.setIfInBounds_toArray, List.set_cons_zero, List.set_cons_succ, List.getElem_toArray, List.getElem_cons_zero, List.getElem_cons_succ]
  refine wpAnyH_take (i := 16) (v := ?v15) rfl (by kernel_rfl) (by kernel_rfl) (by kernel_rfl) (fun _ _ _ h => h) (Or.inl ⟨by rfl, ?hy15⟩) hH ?rest15
  case hy15 => (intro w hSw; (try dsimp only at hSw); go_simp; try with_reducible rfl)
  try simp only [Act.put, List.setIfInBounds_toArray, List.set_cons_zero, List.set_cons_succ, List.getElem_toArray, List.getElem_cons_zero, List.getElem_cons_succ]
  refine wpAnyH_take (i := 17) (v := ?v16) rfl (by kernel_rfl) (by kernel_rfl) (by kernel_rfl) (fun _ _ _ h => h) (Or.inl ⟨by rfl, ?hy16⟩) hH ?rest16
  case hy16 => (intro w hSw; (try dsimp only at hSw); go_simp; try with_reducible rfl)
  try simp only [Act.put, List.setIfInBounds_toArray, List.set_cons_zero, List.set_cons_succ, List.getElem_toArray, List.getElem_cons_zero, List.getElem_cons_succ]
  refine wpAnyH_take (i := 19) (v := ?v17) rfl (by kernel_rfl) (by kernel_rfl) (by kernel_rfl) (fun _ _ _ h => h) (Or.inl ⟨by rfl, ?hy17⟩) hH ?rest17
  case hy17 => (intro w hSw; (try dsimp only at hSw); go_simp; try with_reducible rfl)
  try simp only [Act.put, List.setIfInBounds_toArray, List.set_cons_zero, List.set_cons_succ, List.getElem_toArray, List.getElem_cons_zero, List.getElem_cons_succ]
  refine wpAnyH_take (i := 20) (v := ?v18) rfl (by kernel_rfl) (by kernel_rfl) (by kernel_rfl) (fun _ _ _ h => h) (Or.inl ⟨by rfl, ?hy18⟩) hH ?rest18
  case hy18 => (intro w hSw; (try dsimp only at hSw); go_simp; try with_reducible rfl)
  try simp only [Act.put, List.setIfInBounds_toArray, List.set_cons_zero, List.set_cons_succ, List.getElem_toArray, List.getElem_cons_zero, List.getElem_cons_succ]
  refine wpAnyH_ready (rs := [18]) (by kernel_rfl) (by simp) ?_
  refine AllReadyH.cons rfl (fun K hK => ?_) AllReadyH.nil
  go_simp
  go_at_call 13
  have hGC := GC _ hH
  with_reducible refine hGC.out.mono ?_
  clear hGC
  rintro e wqC ⟨rfl, hbC⟩
  go_wp2_with fail
  refine hK.out _ _ (KS.out _ _ hbC hH) (fun hH2 => ?_)
  clear hK K hH
  have hH := hH2
  clear hH2
  try simp only [Act.put, List.setIfInBounds_toArray, List.set_cons_zero, List.set_cons_succ, List.getElem_toArray, List.getElem_cons_zero, List.getElem_cons_succ]
  refine wpAnyH_ready (rs := [21]) (by kernel_rfl) (by simp) ?_
  refine AllReadyH.cons rfl (fun K hK => ?_) AllReadyH.nil
  go_simp
  go_at_call 14
  have hGD := GD _ hH
  with_reducible refine hGD.out.mono ?_
  clear hGD
  rintro e wqD ⟨rfl, hbD⟩
  go_wp2_with fail
  refine hK.out _ _ (KS.out _ _ hbD hH) (fun hH2 => ?_)
  clear hK K hH
  have hH := hH2
  clear hH2
  try simp only [Act.put, List.setIfInBounds_toArray, List.set_cons_zero, List.set_cons_succ, List.getElem_toArray, List.getElem_cons_zero, List.getElem_cons_succ]
  refine wpAnyH_take (i := 22) (v := ?v19) rfl (by kernel_rfl) (by kernel_rfl) (by kernel_rfl) (fun _ _ _ h => h) (Or.inl ⟨by rfl, ?hy19⟩) hH ?rest19
  case hy19 => (intro w hSw; (try dsimp only at hSw); go_simp; try with_reducible rfl)
  try simp only [Act.put, List.setIfInBounds_toArray, List.set_cons_zero, List.set_cons_succ, List.getElem_toArray, List.getElem_cons_zero, List.getElem_cons_succ]
  refine wpAnyH_take (i := 23) (v := ?v20) rfl (by kernel_rfl) (by kernel_rfl) (by kernel_rfl) (fun _ _ _ h => h) (Or.inl ⟨by rfl, ?hy20⟩) hH ?rest20
  case hy20 => (intro w hSw; (try dsimp only at hSw); go_simp; try with_reducible rfl)
  try simp only [Act.put, List.setIfInBounds_toArray, List.set_cons_zero, List.set_cons_succ, List.getElem_toArray, List.getElem_cons_zero, List.getElem_cons_succ]
  refine wpAnyH_take (i := 24) (v := ?v21) rfl (by kernel_rfl) (by kernel_rfl) (by kernel_rfl) (fun _ _ _ h => h) (Or.inl ⟨by rfl, ?hy21⟩) hH ?rest21
  case hy21 => (intro w hSw; (try dsimp only at hSw); go_simp; try with_reducible rfl)
  try simp only [Act.put, List.setIfInBounds_toArray, List.set_cons_zero, List.set_cons_succ, List.getElem_toArray, List.getElem_cons_zero, List.getElem_cons_succ]
  refine wpAnyH_take (i := 25) (v := ?v22) rfl (by kernel_rfl) (by kernel_rfl) (by kernel_rfl) (fun _ _ _ h => h) (Or.inl ⟨by rfl, ?hy22⟩) hH ?rest22
  case hy22 => (intro w hSw; (try dsimp only at hSw); go_simp; try with_reducible rfl)
  try simp only [Act.put, List.setIfInBounds_toArray, List.set_cons_zero, List.set_cons_succ, List.getElem_toArray, List.getElem_cons_zero, List.getElem_cons_succ]
  refine wpAnyH_take (i := 27) (v := ?v23) rfl (by kernel_rfl) (by kernel_rfl) (by kernel_rfl) (fun _ _ _ h => h) (Or.inl ⟨by rfl, ?hy23⟩) hH ?rest23
  case hy23 => (intro w hSw; (try dsimp only at hSw); go_simp; try with_reducible rfl)
  try simp only [Act.put, List.setIfInBounds_toArray, List.set_cons_zero, List.set_cons_succ, List.getElem_toArray, List.getElem_cons_zero, List.getElem_cons_succ]
  refine wpAnyH_ready (rs := [26]) (by kernel_rfl) (by simp) ?_
  refine AllReadyH.cons rfl (fun K hK => ?_) AllReadyH.nil
  go_simp
  go_at_call 15
  have hGO := GO _ hH
  with_reducible refine hGO.out.mono ?_
  clear hGO
  rintro e wqO ⟨rfl, hbO⟩
  go_wp2_with fail
  refine hK.out _ _ (KS.out _ _ hbO hH) (fun hH2 => ?_)
  clear hK K hH
  have hH := hH2
  clear hH2
  try simp only [Act.put, List.setIfInBounds_toArray, List.set_cons_zero, List.set_cons_succ, List.getElem_toArray, List.getElem_cons_zero, List.getElem_cons_succ]
  refine wpAnyH_ready (rs := [28]) (by kernel_rfl) (by simp) ?_
  refine AllReadyH.cons rfl (fun K hK => ?_) AllReadyH.nil
  go_simp
  go_at_call 16
  have hGP := GP _ hH
  with_reducible refine hGP.out.mono ?_
  clear hGP
  rintro e wqP ⟨rfl, hbP⟩
  go_wp2_with fail
  refine hK.out _ _ (KS.out _ _ hbP hH) (fun hH2 => ?_)
  clear hK K hH
  have hH := hH2
  clear hH2
  try simp only [Act.put, List.setIfInBounds_toArray, List.set_cons_zero, List.set_cons_succ, List.getElem_toArray, List.getElem_cons_zero, List.getElem_cons_succ]
  refine wpAnyH_take (i := 29) (v := ?v24) rfl (by kernel_rfl) (by kernel_rfl) (by kernel_rfl) (fun _ _ _ h => h) (Or.inl ⟨by rfl, ?hy24⟩) hH ?rest24
  case hy24 => (intro w hSw; (try dsimp only at hSw); go_simp; try with_reducible rfl)
  try simp only [Act.put, List.setIfInBounds_toArray, List.set_cons_zero, List.set_cons_succ, List.getElem_toArray, List.getElem_cons_zero, List.getElem_cons_succ]
  refine wpAnyH_take (i := 30) (v := ?v25) rfl (by kernel_rfl) (by kernel_rfl) (by kernel_rfl) (fun _ _ _ h => h) (Or.inl ⟨by rfl, ?hy25⟩) hH ?rest25
  case hy25 => (intro w hSw; (try dsimp only at hSw); go_simp; try with_reducible rfl)
  try simp only [Act.put, List.setIfInBounds_toArray, List.set_cons_zero, List.set_cons_succ, List.getElem_toArray, List.getElem_cons_zero, List.getElem_cons_succ]
  refine wpAnyH_take (i := 31) (v := ?v26) rfl (by kernel_rfl) (by kernel_rfl) (by kernel_rfl) (fun _ _ _ h => h) (Or.inl ⟨by rfl, ?hy26⟩) hH ?rest26
  case hy26 => (intro w hSw; (try dsimp only at hSw); go_simp; try with_reducible rfl)
  try simp only [Act.put, List.setIfInBounds_toArray, List.set_cons_zero, List.set_cons_succ, List.getElem_toArray, List.getElem_cons_zero, List.getElem_cons_succ]
  refine wpAnyH_take (i := 32) (v := ?v27) rfl (by kernel_rfl) (by kernel_rfl) (by kernel_rfl) (fun _ _ _ h => h) (Or.inl ⟨by rfl, ?hy27⟩) hH ?rest27
  case hy27 => (intro w hSw; (try dsimp only at hSw); go_simp; try with_reducible rfl)
  try simp only [Act.put, List.setIfInBounds_toArray, List.set_cons_zero, List.set_cons_succ, List.getElem_toArray, List.getElem_cons_zero, List.getElem_cons_succ]
  refine wpAnyH_take (i := 34) (v := ?v28) rfl (by kernel_rfl) (by kernel_rfl) (by kernel_rfl) (fun _ _ _ h => h) (Or.inl ⟨by rfl, ?hy28⟩) hH ?rest28
  case hy28 => (intro w hSw; (try dsimp only at hSw); go_simp; try with_reducible rfl)
  try simp only [Act.put, List.setIfInBounds_toArray, List.set_cons_zero, List.set_cons_succ, List.getElem_toArray, List.getElem_cons_zero, List.getElem_cons_succ]
  refine wpAnyH_take (i := 35) (v := ?v29) rfl (by kernel_rfl) (by kernel_rfl) (by kernel_rfl) (fun _ _ _ h => h) (Or.inl ⟨by rfl, ?hy29⟩) hH ?rest29
  case hy29 => (intro w hSw; (try dsimp only at hSw); go_simp; try with_reducible rfl)
  try simp only [Act.put, List.setIfInBounds_toArray, List.set_cons_zero, List.set_cons_succ, List.getElem_toArray, List.getElem_cons_zero, List.getElem_cons_succ]
  refine wpAnyH_ready (rs := [33]) (by kernel_rfl) (by simp) ?_
  refine AllReadyH.cons rfl (fun K hK => ?_) AllReadyH.nil
  go_simp
  go_at_call 17
  have hGF := GF _ hH
  with_reducible refine hGF.out.mono ?_
  clear hGF
  rintro e wqF ⟨rfl, hbF⟩
  go_wp2_with fail
  refine hK.out _ _ (KS.out _ _ hbF hH) (fun hH2 => ?_)
  clear hK K hH
  have hH := hH2
  clear hH2
  try simp only [Act.put, List.setIfInBounds_toArray, List.set_cons_zero, List.set_cons_succ, List.getElem_toArray, List.getElem_cons_zero, List.getElem_cons_succ]
  refine wpAnyH_take (i := 36) (v := ?v30) rfl (by kernel_rfl) (by kernel_rfl) (by kernel_rfl) (fun _ _ _ h => h) (Or.inl ⟨by rfl, ?hy30⟩) hH ?rest30
  case hy30 => (intro w hSw; (try dsimp only at hSw); go_simp; try with_reducible rfl)
  try simp only [Act.put, List.setIfInBounds_toArray, List.set_cons_zero, List.set_cons_succ, List.getElem_toArray, List.getElem_cons_zero, List.getElem_cons_succ]
  refine wpAnyH_take (i := 37) (v := ?v31) rfl (by kernel_rfl) (by kernel_rfl) (by kernel_rfl) (fun _ _ _ h => h) (Or.inl ⟨by rfl, ?hy31⟩) hH ?rest31
  case hy31 => (intro w hSw; (try dsimp only at hSw); go_simp; try with_reducible rfl)
  try simp only [Act.put, List.setIfInBounds_toArray, List.set_cons_zero, List.set_cons_succ, List.getElem_toArray, List.getElem_cons_zero, List.getElem_cons_succ]
  refine wpAnyH_take (i := 38) (v := ?v32) rfl (by kernel_rfl) (by kernel_rfl) (by kernel_rfl) (fun _ _ _ h => h) (Or.inl ⟨by rfl, ?hy32⟩) hH ?rest32
  case hy32 => (intro w hSw; (try dsimp only at hSw); go_simp; try with_reducible rfl)
  try simp only [Act.put, List.setIfInBounds_toArray, List.set_cons_zero, List.set_cons_succ, List.getElem_toArray, List.getElem_cons_zero, List.getElem_cons_succ]
  refine wpAnyH_done (by kernel_rfl) ?_ _
  have BX := BE.trans (hH.2.2.2.2.mono BE.size)
  go_wp2
  go_ret
  exact ⟨rfl, BX⟩

theorem walk (a0 b0 : Int) (a1 b1 : Int) (a2 : Int) (A3 : Option Addr) (c3 : Nat) (x3 : List (Int × Int)) (w : World) (s3 : Bs w w.heap.size A3 x3) (m3 : x3.length ≤ c3) : Calls Try.prog 3 #[.agg #[.int .i64 a0, .int .i64 b0], .agg #[.int .i64 a1, .int .i64 b1], .int .i64 a2, .slice A3 x3.length c3] w (UpPost w) := by
  by_cases hl : (100 : Int) < (x3.length : Int)
  · exact long a0 b0 a1 b1 a2 A3 c3 x3 w s3 m3 hl
  · exact rest (nn a0 a2) (ny a0 a2) (cm a0 b0 a1 b1) (ms x3).1 (ms x3).2 (nb a0 a2) (my a0 b0) a0 b0 a1 b1 a2 A3 c3 x3 w s3 m3 hl (fun W => next_any a0 b0 a2 W) (fun W => rnext_any a0 b0 a2 W)
      (fun W => may_any a0 b0 W) (fun W => rmay_any a0 b0 W) (fun W => cmp_any a0 b0 a1 b1 W) (fun W => rcmp_any a0 b0 a1 b1 W)
      (fun W h => most_any A3 c3 x3 W (by omega) m3 h) (fun W h => rmost_any A3 c3 x3 W (by omega) h) (fun W => first_any a2 W)

theorem own : ownKnob Try.prog.godebug = none := by kernel_rfl
theorem laidOut : laidOutB Try.prog = true := by kernel_rfl

set_option maxRecDepth 100000 in
theorem lifted (os : Os) (started : os.Started) (H : Type) (enc : TypeId × Value → H) :
    ReturnsInHanded {} Try.checked os 3 .any (Rows.ballotTellsSpec.pre6 enc Try.prog Try.f3 Rows.ballotTellsRow.domain false) (Rows.ballotTellsSpec.post enc Try.prog Try.f3 false true false false) := by
  refine returnsInHanded_of_change (C := Try.checked) own started (by kernel_rfl) Try.func3
    (ChangeSpec.witness6 (enc := enc) (C := Try.checked) false ⟨#[], #[.agg #[.int .i64 0, .int .i64 0], .agg #[.int .i64 0, .int .i64 0], .int .i64 0, .slice none 0 0], []⟩ 8 (by kernel_rfl) (by kernel_rfl) (by kernel_rfl) (by kernel_rfl)) ?_
  intro W base args ds gs before hval0 hW hcnd _
  have hval : ∀ (j : Nat) t v, Try.f3.params[j]? = some t → args[j]? = some v → Value.okWide Try.prog W .any base t v := hval0
  have hW' := hW
  obtain ⟨p, q, hA, hV, rfl, hfz, hnd⟩ := hW
  have hA : DataW.TrodAll enc Try.prog W 0 (fun _ => true) true Try.f3.params.toList args.toList ds p := hA
  rw [Try.params3] at hA hval
  obtain ⟨v0, vs0, d0, ds0, p0, q0, hargs, rfl, rfl, h0, r0⟩ := trodAll_cons hA
  obtain ⟨v1, vs1, d1, ds1, p1, q1, rfl, rfl, rfl, h1, r1⟩ := trodAll_cons r0
  obtain ⟨v2, vs2, d2, ds2, p2, q2, rfl, rfl, rfl, h2, r2⟩ := trodAll_cons r1
  obtain ⟨v3, vs3, d3, ds3, p3, q3, rfl, rfl, rfl, h3, r3⟩ := trodAll_cons r2
  obtain ⟨rfl, rfl, rfl⟩ := trodAll_nil r3
  obtain rfl : args = #[v0, v1, v2, v3] := by cases args; simp_all
  obtain ⟨rfl, rfl⟩ := trodVars_none hV
  have k0 := h0
  have lt0 : ∀ x ∈ p0, x.block < W.heap.size := by obtain ⟨m, hm⟩ := k0; exact DataW.trod_lt m _ _ _ hm
  obtain ⟨a0, b0, rfl⟩ := open_bal (hval 0 23 v0 rfl rfl) h0
  have k1 := h1
  have lt1 : ∀ x ∈ p1, x.block < W.heap.size := by obtain ⟨m, hm⟩ := k1; exact DataW.trod_lt m _ _ _ hm
  obtain ⟨a1, b1, rfl⟩ := open_bal (hval 1 23 v1 rfl rfl) h1
  obtain ⟨a2, rfl, rfl, rfl, w2⟩ := open_int Try.underlying3 (hval 2 3 v2 rfl rfl) h2
  have k3 := h3
  have lt3 : ∀ x ∈ p3, x.block < W.heap.size := by obtain ⟨m, hm⟩ := k3; exact DataW.trod_lt m _ _ _ hm
  obtain ⟨A3, c3, x3, rfl, s3, m3⟩ := open_bals (hval 3 24 v3 rfl rfl) h3
  clear hval0
  refine (walk a0 b0 a1 b1 a2 A3 c3 x3 W s3 m3).mono fun e W' ⟨he, bel⟩ => ?_
  subst he
  exact ⟨_, rfl, _, _, _, [], _, [], hW', trodAll_mk1 (shut_bool Try.underlying4 _), (trodAll_cons_mk (Below.trod laidOut (by kernel_rfl) (of_decide_eq_true (by kernel_rfl)) k0 bel lt0) (trodAll_cons_mk (Below.trod laidOut (by kernel_rfl) (of_decide_eq_true (by kernel_rfl)) k1 bel lt1) (trodAll_cons_mk (shut_int Try.underlying3 w2) (trodAll_cons_mk (Below.trod laidOut (by kernel_rfl) (of_decide_eq_true (by kernel_rfl)) k3 bel lt3) trodAll_mk0)))), rfl, bel.frame _, fun h => by cases h⟩

theorem over : Rows.ballotTellsRow.holds Try.pinned (OpenSpec.ofChange Rows.ballotTellsSpec) :=
  OpenClaim.holds_of_wide 3 Try.f3 rfl rfl rfl rfl rfl rfl rfl ⟨rfl, rfl, rfl, rfl, rfl⟩ rfl rfl rfl rfl rfl (by kernel_rfl) Try.func3 (by kernel_rfl)
    (of_decide_eq_true (by kernel_rfl)) (by unfold Func.isWrapper; first | (rw [if_pos (by decide +kernel)]; kernel_rfl) | (rw [if_neg (by decide +kernel)]; exact ⟨rfl, rfl⟩))
    (fun os started H enc _ => lifted os started H enc)

theorem proved : Rows.BallotTellsSaid := over
#print axioms proved
end Go.Proofs.Ytnlpfapfijckiaa.ballotTells
