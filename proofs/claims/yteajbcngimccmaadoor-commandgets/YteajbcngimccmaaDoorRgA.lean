/-
  Walks of the document's Get of a command, way by way (refused ahead of its text). Conditions: the bytes are bytes, fewer than 2^62; what each way asks is a hypothesis.
-/
import Derived.Test.YteajbcngimccmaaDoorIv
namespace Go.Proofs.YteajbcngimccmaaDoor
open Go.RowKit
set_option linter.unusedVariables false

set_option maxHeartbeats 1000000 in
theorem rg_e1 (A : Option Addr) (c : Nat) (xs : List Int) (w : World) (hl : xs.length ≤ 4611686018427387904) (hcap : xs.length ≤ c) (hs : Sl w w.heap.size .u8 A xs) (hx : ∀ x ∈ xs, 0 ≤ x ∧ x ≤ 255)
    (f : Int) (he : f ≠ 0) (h1 : ga 1 [] xs = ([], [], f)) : Calls Tryd.prog 17 #[.slice A xs.length c] w (GPost w (noG f)) := by
  go_enter Tryd.func17, Tryd.ntmps17
  go_wp2_with fail
  have I := Jv.start w
  generalize ((w.alloc (.cells #[.int .i64 0, .int .i64 0, .int .i64 0, .int .i64 0, .int .i64 0, .string { data := #[] }] 23)).alloc (.cells #[.int .i64 0, .int .i64 0, .int .i64 0, .int .i64 0, .int .i64 0, .string { data := #[] }] 23)) = W0 at *
  have y0 := I.lt
  have S0 : Sl W0 w.heap.size .u8 A xs := hs.below I.2.2
  refine (rnums_any A c xs 1 w.heap.size W0 (by omega) (by decide) hl hcap S0 hx _ h1).mono ?_
  rintro e w1 ⟨_, hE, B1⟩
  have hE := hE he
  subst hE
  have I := I.on B1
  have heb : (f == 0) = false := by rw [beq_eq_false_iff_ne]; exact he
  obtain ⟨z0, z1, z2, z3, z4, z5⟩ := I.2.1.cb
  obtain ⟨d0, d1, d2, d3, d4, d5⟩ := I.1.cb
  have g0 := I.1.free 0
  have g1 := I.1.free 1
  have g2 := I.1.free 2
  have g3 := I.1.free 3
  have g4 := I.1.free 4
  have g5 := I.1.free 5
  go_wp2
  try simp only [Exit.inBlock, Exit.then]
  exact bodyPost_ret (run_res17 (B := w.heap.size) rfl rfl (six I.1 0 0 0 0 0 { data := #[] }).cb) rfl ⟨rfl, six_below I.2.2 (Nat.le_refl _) 0 0 0 0 0 { data := #[] }⟩

set_option maxHeartbeats 1000000 in
theorem rg_e2 (A : Option Addr) (c : Nat) (xs : List Int) (w : World) (hl : xs.length ≤ 4611686018427387904) (hcap : xs.length ≤ c) (hs : Sl w w.heap.size .u8 A xs) (hx : ∀ x ∈ xs, 0 ≤ x ∧ x ≤ 255)
    (l1 : List Int) (k : Int) (h1 : ga 1 [] xs = ([k], l1, 0)) (bl1 : l1.length ≤ 4611686018427387904) (bx1 : ∀ x ∈ l1, 0 ≤ x ∧ x ≤ 255)
    (hk : 8 ≤ k) : Calls Tryd.prog 17 #[.slice A xs.length c] w (GPost w (noG 2)) := by
  go_enter Tryd.func17, Tryd.ntmps17
  go_wp2_with fail
  have I := Jv.start w
  generalize ((w.alloc (.cells #[.int .i64 0, .int .i64 0, .int .i64 0, .int .i64 0, .int .i64 0, .string { data := #[] }] 23)).alloc (.cells #[.int .i64 0, .int .i64 0, .int .i64 0, .int .i64 0, .int .i64 0, .string { data := #[] }] 23)) = W0 at *
  have y0 := I.lt
  have S0 : Sl W0 w.heap.size .u8 A xs := hs.below I.2.2
  refine (rnums_any A c xs 1 w.heap.size W0 (by omega) (by decide) hl hcap S0 hx _ h1).mono ?_
  rintro e w1 ⟨hE, _, B1⟩
  obtain ⟨v1, A1, c1, hE, own1, S1, l1c⟩ := hE rfl
  subst hE
  obtain ⟨r1, cp1, hv, rb1, rc1⟩ := row_at own1
  subst hv
  have I := I.on B1
  have y1 := B1.size
  clear own1
  have rc1_0 := rc1 0 k rfl
  clear rc1
  obtain ⟨z0, z1, z2, z3, z4, z5⟩ := I.2.1.cb
  obtain ⟨d0, d1, d2, d3, d4, d5⟩ := I.1.cb
  have g0 := I.1.free 0
  have g1 := I.1.free 1
  have g2 := I.1.free 2
  have g3 := I.1.free 3
  have g4 := I.1.free 4
  have g5 := I.1.free 5
  go_wp2
  try simp only [Exit.inBlock, Exit.then]
  exact bodyPost_ret (run_res17 (B := w.heap.size) rfl rfl (six I.1 0 0 0 0 0 { data := #[] }).cb) rfl ⟨rfl, six_below I.2.2 (Nat.le_refl _) 0 0 0 0 0 { data := #[] }⟩

set_option maxHeartbeats 1000000 in
theorem rg_k0m (A : Option Addr) (c : Nat) (xs : List Int) (w : World) (hl : xs.length ≤ 4611686018427387904) (hcap : xs.length ≤ c) (hs : Sl w w.heap.size .u8 A xs) (hx : ∀ x ∈ xs, 0 ≤ x ∧ x ≤ 255)
    (l1 : List Int) (h1 : ga 1 [] xs = ([0], l1, 0)) (bl1 : l1.length ≤ 4611686018427387904) (bx1 : ∀ x ∈ l1, 0 ≤ x ∧ x ≤ 255)
    (HQ : ∀ W, Hid (Calls Tryd.prog 24 #[.int .i64 0] W fun e w' => e = .returned (.bool false) ∧ W = w'))
    (HR : ∀ W, Hid (Calls Tryd.prog 25 #[.int .i64 0] W fun e w' => e = .returned (.bool false) ∧ W = w'))
    (z : Bool)
    (HM : ∀ W, Hid (Calls Tryd.prog 13 #[cv 0 0 0 0 0 { data := #[] }] W (BoolPost W z)))
    (j : Nat) (hj : l1.length = j) (hj0 : (0 : Int) < (j : Int)) : Calls Tryd.prog 17 #[.slice A xs.length c] w (GPost w (noG 2)) := by
  go_enter Tryd.func17, Tryd.ntmps17
  go_wp2_with fail
  have I := Jv.start w
  generalize ((w.alloc (.cells #[.int .i64 0, .int .i64 0, .int .i64 0, .int .i64 0, .int .i64 0, .string { data := #[] }] 23)).alloc (.cells #[.int .i64 0, .int .i64 0, .int .i64 0, .int .i64 0, .int .i64 0, .string { data := #[] }] 23)) = W0 at *
  have y0 := I.lt
  have S0 : Sl W0 w.heap.size .u8 A xs := hs.below I.2.2
  refine (rnums_any A c xs 1 w.heap.size W0 (by omega) (by decide) hl hcap S0 hx _ h1).mono ?_
  rintro e w1 ⟨hE, _, B1⟩
  obtain ⟨v1, A1, c1, hE, own1, S1, l1c⟩ := hE rfl
  subst hE
  obtain ⟨r1, cp1, hv, rb1, rc1⟩ := row_at own1
  subst hv
  have I := I.on B1
  have y1 := B1.size
  clear own1
  have rc1_0 := rc1 0 0 rfl
  clear rc1
  go_wp2_with fail
  have I := I.cmd 0
  have Z1 : (w1.alloc (.cells #[.int .i64 0, .int .i64 0, .int .i64 0, .int .i64 0, .int .i64 0, .string { data := #[] }] 23)).heap.size = w1.heap.size + 1 := by simp
  have S1 : Sl (w1.alloc (.cells #[.int .i64 0, .int .i64 0, .int .i64 0, .int .i64 0, .int .i64 0, .string { data := #[] }] 23)) w.heap.size .u8 A1 l1 := S1.below ((Below.refl _ _).alloc (by omega) _)
  generalize (w1.alloc (.cells #[.int .i64 0, .int .i64 0, .int .i64 0, .int .i64 0, .int .i64 0, .string { data := #[] }] 23)) = W1 at *
  clear rc1_0
  refine (HQ W1).out.mono ?_
  rintro e wq ⟨rfl, hw⟩
  subst hw
  obtain ⟨x0, x1, x2, x3, x4, x5⟩ := I.2.1.cb
  have f0 := I.2.1.free 0
  have f1 := I.2.1.free 1
  have f3 := I.2.1.free 3
  have f4 := I.2.1.free 4
  have f5 := I.2.1.free 5
  go_wp2_with fail
  clear x0 x1 x2 x3 x4 x5 f0 f1 f3 f4 f5
  refine (HR W1).out.mono ?_
  rintro e wq ⟨rfl, hw⟩
  subst hw
  obtain ⟨x0, x1, x2, x3, x4, x5⟩ := I.2.1.cb
  have f0 := I.2.1.free 0
  have f1 := I.2.1.free 1
  have f3 := I.2.1.free 3
  have f4 := I.2.1.free 4
  have f5 := I.2.1.free 5
  go_wp2_with fail
  clear x0 x1 x2 x3 x4 x5 f0 f1 f3 f4 f5
  refine (HM W1).out.mono ?_
  rintro e w8 ⟨rfl, B8⟩
  have I := I.on B8
  have y8 := B8.size
  try rw [hj]
  obtain ⟨z0, z1, z2, z3, z4, z5⟩ := I.1.2.1.cb
  obtain ⟨d0, d1, d2, d3, d4, d5⟩ := I.1.1.cb
  have g0 := I.1.1.free 0
  have g1 := I.1.1.free 1
  have g2 := I.1.1.free 2
  have g3 := I.1.1.free 3
  have g4 := I.1.1.free 4
  have g5 := I.1.1.free 5
  go_wp2
  try simp only [Exit.inBlock, Exit.then]
  exact bodyPost_ret (run_res17 (B := w.heap.size) rfl rfl (six I.1.1 0 0 0 0 0 { data := #[] }).cb) rfl ⟨rfl, six_below I.1.2.2 (Nat.le_refl _) 0 0 0 0 0 { data := #[] }⟩

set_option maxHeartbeats 1000000 in
theorem rg_k0 (A : Option Addr) (c : Nat) (xs : List Int) (w : World) (hl : xs.length ≤ 4611686018427387904) (hcap : xs.length ≤ c) (hs : Sl w w.heap.size .u8 A xs) (hx : ∀ x ∈ xs, 0 ≤ x ∧ x ≤ 255)
    (l1 : List Int) (h1 : ga 1 [] xs = ([0], l1, 0)) (bl1 : l1.length ≤ 4611686018427387904) (bx1 : ∀ x ∈ l1, 0 ≤ x ∧ x ≤ 255)
    (HQ : ∀ W, Hid (Calls Tryd.prog 24 #[.int .i64 0] W fun e w' => e = .returned (.bool false) ∧ W = w'))
    (HR : ∀ W, Hid (Calls Tryd.prog 25 #[.int .i64 0] W fun e w' => e = .returned (.bool false) ∧ W = w'))
    (HM : ∀ W, Hid (Calls Tryd.prog 13 #[cv 0 0 0 0 0 { data := #[] }] W (BoolPost W true)))
    (hj : l1.length = 0) : Calls Tryd.prog 17 #[.slice A xs.length c] w (GPost w ⟨0, 0, 0, 0, 0, [], 0⟩) := by
  go_enter Tryd.func17, Tryd.ntmps17
  go_wp2_with fail
  have I := Jv.start w
  generalize ((w.alloc (.cells #[.int .i64 0, .int .i64 0, .int .i64 0, .int .i64 0, .int .i64 0, .string { data := #[] }] 23)).alloc (.cells #[.int .i64 0, .int .i64 0, .int .i64 0, .int .i64 0, .int .i64 0, .string { data := #[] }] 23)) = W0 at *
  have y0 := I.lt
  have S0 : Sl W0 w.heap.size .u8 A xs := hs.below I.2.2
  refine (rnums_any A c xs 1 w.heap.size W0 (by omega) (by decide) hl hcap S0 hx _ h1).mono ?_
  rintro e w1 ⟨hE, _, B1⟩
  obtain ⟨v1, A1, c1, hE, own1, S1, l1c⟩ := hE rfl
  subst hE
  obtain ⟨r1, cp1, hv, rb1, rc1⟩ := row_at own1
  subst hv
  have I := I.on B1
  have y1 := B1.size
  clear own1
  have rc1_0 := rc1 0 0 rfl
  clear rc1
  go_wp2_with fail
  have I := I.cmd 0
  have Z1 : (w1.alloc (.cells #[.int .i64 0, .int .i64 0, .int .i64 0, .int .i64 0, .int .i64 0, .string { data := #[] }] 23)).heap.size = w1.heap.size + 1 := by simp
  have S1 : Sl (w1.alloc (.cells #[.int .i64 0, .int .i64 0, .int .i64 0, .int .i64 0, .int .i64 0, .string { data := #[] }] 23)) w.heap.size .u8 A1 l1 := S1.below ((Below.refl _ _).alloc (by omega) _)
  generalize (w1.alloc (.cells #[.int .i64 0, .int .i64 0, .int .i64 0, .int .i64 0, .int .i64 0, .string { data := #[] }] 23)) = W1 at *
  clear rc1_0
  refine (HQ W1).out.mono ?_
  rintro e wq ⟨rfl, hw⟩
  subst hw
  obtain ⟨x0, x1, x2, x3, x4, x5⟩ := I.2.1.cb
  have f0 := I.2.1.free 0
  have f1 := I.2.1.free 1
  have f3 := I.2.1.free 3
  have f4 := I.2.1.free 4
  have f5 := I.2.1.free 5
  go_wp2_with fail
  clear x0 x1 x2 x3 x4 x5 f0 f1 f3 f4 f5
  refine (HR W1).out.mono ?_
  rintro e wq ⟨rfl, hw⟩
  subst hw
  obtain ⟨x0, x1, x2, x3, x4, x5⟩ := I.2.1.cb
  have f0 := I.2.1.free 0
  have f1 := I.2.1.free 1
  have f3 := I.2.1.free 3
  have f4 := I.2.1.free 4
  have f5 := I.2.1.free 5
  go_wp2_with fail
  clear x0 x1 x2 x3 x4 x5 f0 f1 f3 f4 f5
  refine (HM W1).out.mono ?_
  rintro e w8 ⟨rfl, B8⟩
  have I := I.on B8
  have y8 := B8.size
  try rw [hj]
  obtain ⟨x0, x1, x2, x3, x4, x5⟩ := I.2.1.cb
  obtain ⟨z0, z1, z2, z3, z4, z5⟩ := I.1.2.1.cb
  obtain ⟨d0, d1, d2, d3, d4, d5⟩ := I.1.1.cb
  have g0 := I.1.1.free 0
  have g1 := I.1.1.free 1
  have g2 := I.1.1.free 2
  have g3 := I.1.1.free 3
  have g4 := I.1.1.free 4
  have g5 := I.1.1.free 5
  go_wp2
  try simp only [Exit.inBlock, Exit.then]
  exact bodyPost_ret (run_res17 (B := w.heap.size) rfl rfl (six I.1.1 0 0 0 0 0 { data := #[] }).cb) rfl ⟨rfl, six_below I.1.2.2 (Nat.le_refl _) 0 0 0 0 0 { data := #[] }⟩

set_option maxHeartbeats 1000000 in
theorem rg_e4 (A : Option Addr) (c : Nat) (xs : List Int) (w : World) (hl : xs.length ≤ 4611686018427387904) (hcap : xs.length ≤ c) (hs : Sl w w.heap.size .u8 A xs) (hx : ∀ x ∈ xs, 0 ≤ x ∧ x ≤ 255)
    (l1 : List Int) (k : Int) (h1 : ga 1 [] xs = ([k], l1, 0)) (bl1 : l1.length ≤ 4611686018427387904) (bx1 : ∀ x ∈ l1, 0 ≤ x ∧ x ≤ 255)
    (hk8 : decide (8 ≤ k) = false) (hk0 : (k == 0) = false)
    (f : Int) (he : f ≠ 0) (h3 : ga 3 [] l1 = ([], [], f)) : Calls Tryd.prog 17 #[.slice A xs.length c] w (GPost w (noG f)) := by
  go_enter Tryd.func17, Tryd.ntmps17
  go_wp2_with fail
  have I := Jv.start w
  generalize ((w.alloc (.cells #[.int .i64 0, .int .i64 0, .int .i64 0, .int .i64 0, .int .i64 0, .string { data := #[] }] 23)).alloc (.cells #[.int .i64 0, .int .i64 0, .int .i64 0, .int .i64 0, .int .i64 0, .string { data := #[] }] 23)) = W0 at *
  have y0 := I.lt
  have S0 : Sl W0 w.heap.size .u8 A xs := hs.below I.2.2
  refine (rnums_any A c xs 1 w.heap.size W0 (by omega) (by decide) hl hcap S0 hx _ h1).mono ?_
  rintro e w1 ⟨hE, _, B1⟩
  obtain ⟨v1, A1, c1, hE, own1, S1, l1c⟩ := hE rfl
  subst hE
  obtain ⟨r1, cp1, hv, rb1, rc1⟩ := row_at own1
  subst hv
  have I := I.on B1
  have y1 := B1.size
  clear own1
  have rc1_0 := rc1 0 k rfl
  clear rc1
  go_wp2_with fail
  have I := I.cmd k
  have Z1 : (w1.alloc (.cells #[.int .i64 0, .int .i64 0, .int .i64 k, .int .i64 0, .int .i64 0, .string { data := #[] }] 23)).heap.size = w1.heap.size + 1 := by simp
  have S1 : Sl (w1.alloc (.cells #[.int .i64 0, .int .i64 0, .int .i64 k, .int .i64 0, .int .i64 0, .string { data := #[] }] 23)) w.heap.size .u8 A1 l1 := S1.below ((Below.refl _ _).alloc (by omega) _)
  generalize (w1.alloc (.cells #[.int .i64 0, .int .i64 0, .int .i64 k, .int .i64 0, .int .i64 0, .string { data := #[] }] 23)) = W1 at *
  clear rc1_0
  refine (rnums_any A1 c1 l1 3 w.heap.size W1 (by omega) (by decide) bl1 l1c S1 bx1 _ h3).mono ?_
  rintro e w2 ⟨_, hE, B2⟩
  have hE := hE he
  subst hE
  have I := I.on B2
  have heb : (f == 0) = false := by rw [beq_eq_false_iff_ne]; exact he
  obtain ⟨z0, z1, z2, z3, z4, z5⟩ := I.1.2.1.cb
  obtain ⟨d0, d1, d2, d3, d4, d5⟩ := I.1.1.cb
  have g0 := I.1.1.free 0
  have g1 := I.1.1.free 1
  have g2 := I.1.1.free 2
  have g3 := I.1.1.free 3
  have g4 := I.1.1.free 4
  have g5 := I.1.1.free 5
  go_wp2
  try simp only [Exit.inBlock, Exit.then]
  exact bodyPost_ret (run_res17 (B := w.heap.size) rfl rfl (six I.1.1 0 0 0 0 0 { data := #[] }).cb) rfl ⟨rfl, six_below I.1.2.2 (Nat.le_refl _) 0 0 0 0 0 { data := #[] }⟩

set_option maxHeartbeats 1000000 in
theorem rg_eN (A : Option Addr) (c : Nat) (xs : List Int) (w : World) (hl : xs.length ≤ 4611686018427387904) (hcap : xs.length ≤ c) (hs : Sl w w.heap.size .u8 A xs) (hx : ∀ x ∈ xs, 0 ≤ x ∧ x ≤ 255)
    (l1 : List Int) (k : Int) (h1 : ga 1 [] xs = ([k], l1, 0)) (bl1 : l1.length ≤ 4611686018427387904) (bx1 : ∀ x ∈ l1, 0 ≤ x ∧ x ≤ 255)
    (hk8 : decide (8 ≤ k) = false) (hk0 : (k == 0) = false)
    (u s h : Int) (l2 : List Int) (h3 : ga 3 [] l1 = ([u, s, h], l2, 0)) (bl2 : l2.length ≤ 4611686018427387904) (bx2 : ∀ x ∈ l2, 0 ≤ x ∧ x ≤ 255)
    (HQ : ∀ W, Hid (Calls Tryd.prog 24 #[.int .i64 k] W fun e w' => e = .returned (.bool true) ∧ W = w'))
    (f : Int) (he : f ≠ 0) (h4 : ga 1 [] l2 = ([], [], f)) : Calls Tryd.prog 17 #[.slice A xs.length c] w (GPost w (noG f)) := by
  go_enter Tryd.func17, Tryd.ntmps17
  go_wp2_with fail
  have I := Jv.start w
  generalize ((w.alloc (.cells #[.int .i64 0, .int .i64 0, .int .i64 0, .int .i64 0, .int .i64 0, .string { data := #[] }] 23)).alloc (.cells #[.int .i64 0, .int .i64 0, .int .i64 0, .int .i64 0, .int .i64 0, .string { data := #[] }] 23)) = W0 at *
  have y0 := I.lt
  have S0 : Sl W0 w.heap.size .u8 A xs := hs.below I.2.2
  refine (rnums_any A c xs 1 w.heap.size W0 (by omega) (by decide) hl hcap S0 hx _ h1).mono ?_
  rintro e w1 ⟨hE, _, B1⟩
  obtain ⟨v1, A1, c1, hE, own1, S1, l1c⟩ := hE rfl
  subst hE
  obtain ⟨r1, cp1, hv, rb1, rc1⟩ := row_at own1
  subst hv
  have I := I.on B1
  have y1 := B1.size
  clear own1
  have rc1_0 := rc1 0 k rfl
  clear rc1
  go_wp2_with fail
  have I := I.cmd k
  have Z1 : (w1.alloc (.cells #[.int .i64 0, .int .i64 0, .int .i64 k, .int .i64 0, .int .i64 0, .string { data := #[] }] 23)).heap.size = w1.heap.size + 1 := by simp
  have S1 : Sl (w1.alloc (.cells #[.int .i64 0, .int .i64 0, .int .i64 k, .int .i64 0, .int .i64 0, .string { data := #[] }] 23)) w.heap.size .u8 A1 l1 := S1.below ((Below.refl _ _).alloc (by omega) _)
  generalize (w1.alloc (.cells #[.int .i64 0, .int .i64 0, .int .i64 k, .int .i64 0, .int .i64 0, .string { data := #[] }] 23)) = W1 at *
  clear rc1_0
  refine (rnums_any A1 c1 l1 3 w.heap.size W1 (by omega) (by decide) bl1 l1c S1 bx1 _ h3).mono ?_
  rintro e w2 ⟨hE, _, B2⟩
  obtain ⟨v2, A2, c2, hE, own2, S2, l2c⟩ := hE rfl
  subst hE
  obtain ⟨r2, cp2, hv, rb2, rc2⟩ := row_at own2
  subst hv
  have I := I.on B2
  have y2 := B2.size
  clear own2
  have rc2_0 := rc2 0 u rfl
  have rc2_1 := rc2 1 s rfl
  have rc2_2 := rc2 2 h rfl
  clear rc2
  have e2a : ¬ r2 = w1.heap.size := by omega
  have e2b : ¬ w1.heap.size = r2 := by omega
  obtain ⟨x0, x1, x2, x3, x4, x5⟩ := I.2.1.cb
  have f0 := I.2.1.free 0
  have f1 := I.2.1.free 1
  have f3 := I.2.1.free 3
  have f4 := I.2.1.free 4
  have f5 := I.2.1.free 5
  go_wp2_with fail
  clear x0 x1 x2 x3 x4 x5 f0 f1 f3 f4 f5
  have I := I.set3 u s h
  have S2 := S2.below (set3_on (X := w1.heap.size) (by omega) (.int .i64 u) (.int .i64 s) (.int .i64 h))
  have T2 : (((w2.setCell ⟨w1.heap.size, 0, none⟩ (.int .i64 u)).setCell ⟨w1.heap.size, 1, none⟩ (.int .i64 s)).setCell ⟨w1.heap.size, 3, none⟩ (.int .i64 h)).heap.size = w2.heap.size := by simp
  generalize (((w2.setCell ⟨w1.heap.size, 0, none⟩ (.int .i64 u)).setCell ⟨w1.heap.size, 1, none⟩ (.int .i64 s)).setCell ⟨w1.heap.size, 3, none⟩ (.int .i64 h)) = W2 at *
  clear rc2_0 rc2_1 rc2_2
  refine (HQ W2).out.mono ?_
  rintro e wq ⟨rfl, hw⟩
  subst hw
  go_wp2_with fail
  refine (rnums_any A2 c2 l2 1 w.heap.size W2 (by omega) (by decide) bl2 l2c S2 bx2 _ h4).mono ?_
  rintro e w3 ⟨_, hE, B3⟩
  have hE := hE he
  subst hE
  have I := I.on B3
  have heb : (f == 0) = false := by rw [beq_eq_false_iff_ne]; exact he
  obtain ⟨z0, z1, z2, z3, z4, z5⟩ := I.1.2.1.cb
  obtain ⟨d0, d1, d2, d3, d4, d5⟩ := I.1.1.cb
  have g0 := I.1.1.free 0
  have g1 := I.1.1.free 1
  have g2 := I.1.1.free 2
  have g3 := I.1.1.free 3
  have g4 := I.1.1.free 4
  have g5 := I.1.1.free 5
  go_wp2
  try simp only [Exit.inBlock, Exit.then]
  exact bodyPost_ret (run_res17 (B := w.heap.size) rfl rfl (six I.1.1 0 0 0 0 0 { data := #[] }).cb) rfl ⟨rfl, six_below I.1.2.2 (Nat.le_refl _) 0 0 0 0 0 { data := #[] }⟩

end Go.Proofs.YteajbcngimccmaaDoor
