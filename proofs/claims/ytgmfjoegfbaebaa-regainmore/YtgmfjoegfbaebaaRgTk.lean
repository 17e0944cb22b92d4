/-
  The walks of takeFirst, takeAccepted, again, wait and Fast. Conditions: at most 200 reports of at most 1000 deps, at most 7 replicas.
-/
import Derived.Test.YtgmfjoegfbaebaaRgAg
import Derived.Deep.RegionHeld3
import Derived.Deep.QuietTactic
namespace Go.Proofs.Ytgmfjoegfbaebaa.Rg
open Go.RowKit In
set_option linter.unusedVariables false
attribute [local go_sem ↓ high] Ba.eq23 Ba.guard23 Ba.neq23 Ba.guard23n eqc guardc

theorem gt_mem {s : Int} {l : List Rp} {y : Rp} (h : gt s l = some y) : y ∈ l := by
  suffices H : ∀ (l : List Rp) (m : Option Rp), (∀ y, m = some y → y ∈ l ∨ True) → ∀ y, l.foldl (gs s) m = some y → y ∈ l ∨ m = some y by
    rcases H l none (fun y h => by cases h) y h with h | h
    · exact h
    · cases h
  intro l
  induction l with
  | nil => exact fun m _ y h => .inr h
  | cons x t ih =>
    intro m hm y h
    rcases ih (gs s m x) (fun _ _ => .inr trivial) y h with h | h
    · exact .inl (List.mem_cons_of_mem _ h)
    · have : gs s m x = m ∨ gs s m x = some x := by
        rcases m with _ | z
        · by_cases hc : x.r.st = s
          · exact .inr (if_pos hc)
          · exact .inl (if_neg hc)
        · by_cases hc : x.r.st = s ∧ 0 < cv2 x z
          · exact .inr (if_pos hc)
          · exact .inl (if_neg hc)
      rcases this with e | e
      · rw [e] at h; exact .inr h
      · rw [e] at h; cases h; exact .inl List.mem_cons_self
theorem ag_mem {o : Int} {l : List Rp} {y : Rp} (h : ag o l = some y) : y ∈ l := by
  rcases l with _ | ⟨x, t⟩
  · cases h
  · rw [ag_cons] at h
    split at h
    · cases h; exact List.mem_cons_self
    · cases h
theorem dn_mem {l : List Rp} {y : Rp} (h : dn l = some y) : y ∈ l := List.mem_of_find?_eq_some h

theorem run_takeFirst {V : World} {tm : Array Value} {B : Nat} {x : Ch} {A : Option Addr} {c : Nat} {b : Bool} (h2 : tm[2]?.getD undef = .pointer (some ⟨B, 0, none⟩)) (h3 : tm[3]?.getD undef = .bool b) (hb : Cx V B x A c) :
    (results Try.f23 tm).run Try.prog V = .ok (.tuple #[chv x A c, .bool b]) V := by
  obtain ⟨c0, c1, c2, c3, c4, c5, c6, c7, c8⟩ := hb.cc
  simp [results, Try.f23, go_sem, h2, h3, c0, c1, c2, c3, c4, c5, c6, c7, c8]
set_option maxHeartbeats 1000000 in
theorem takeFirst_any (n : Nat) (h7 : n ≤ 7) (o : Int) (A : Option Addr) (c : Nat) (L : List Rp) (hl : Few L) (w : World) (hs : Ls w w.heap.size A L) : Calls Try.prog 23 #[hv n o A L.length c] w (ChoPost w (co (cw 2) (ag o (ct L n))) (ag o (ct L n)).isSome) := by
  have X0 : Hx ((w.alloc (.cells #[.int .i64 (n : Int), .int .i64 o, .slice A L.length c] 48)).alloc (.cells #[.int .i64 0, .int .i64 0, .int .i64 0, .int .i64 0, .int .i64 0, .int .i64 0, .string ⟨#[]⟩, .int .i64 0, .slice none 0 0] 32)) w.heap.size n o A L.length c := (hx_new w n o A L.length c).old _
  have Z0 : Cx ((w.alloc (.cells #[.int .i64 (n : Int), .int .i64 o, .slice A L.length c] 48)).alloc (.cells #[.int .i64 0, .int .i64 0, .int .i64 0, .int .i64 0, .int .i64 0, .int .i64 0, .string ⟨#[]⟩, .int .i64 0, .slice none 0 0] 32)) (w.heap.size + 1) c0 none 0 := by
    have h0 := cx_zero (w.alloc (.cells #[.int .i64 (n : Int), .int .i64 o, .slice A L.length c] 48))
    rw [show (w.alloc (.cells #[.int .i64 (n : Int), .int .i64 o, .slice A L.length c] 48)).heap.size = w.heap.size + 1 by simp] at h0
    exact h0
  have B0 : Below w.heap.size w ((w.alloc (.cells #[.int .i64 (n : Int), .int .i64 o, .slice A L.length c] 48)).alloc (.cells #[.int .i64 0, .int .i64 0, .int .i64 0, .int .i64 0, .int .i64 0, .int .i64 0, .string ⟨#[]⟩, .int .i64 0, .slice none 0 0] 32)) := ((Below.refl _ _).alloc (Nat.le_refl _) _).alloc (by simp) _
  have S0 : Ls ((w.alloc (.cells #[.int .i64 (n : Int), .int .i64 o, .slice A L.length c] 48)).alloc (.cells #[.int .i64 0, .int .i64 0, .int .i64 0, .int .i64 0, .int .i64 0, .int .i64 0, .string ⟨#[]⟩, .int .i64 0, .slice none 0 0] 32)) w.heap.size A L := hs.below B0
  obtain ⟨x0, x1, x2⟩ := id X0.cells
  have HG : ∀ V, Ls V V.heap.size A L → Hid (Calls Try.prog 30 #[hv n o A L.length c] V (RcP V (ag o (ct L n)))) := fun V g => agreed_any n h7 o A c L hl V g
  have HM : Hid (∀ y, ag o (ct L n) = some y → y ∈ L) := Lib.hid (fun y h => ct_mem (ag_mem h))
  generalize ag o (ct L n) = g at *
  have SZ := S0.mono B0.size
  go_enter Try.func23, Try.ntmps23
  go_wp2_with fail
  generalize ((w.alloc (.cells #[.int .i64 (n : Int), .int .i64 o, .slice A L.length c] 48)).alloc (.cells #[.int .i64 0, .int .i64 0, .int .i64 0, .int .i64 0, .int .i64 0, .int .i64 0, .string ⟨#[]⟩, .int .i64 0, .slice none 0 0] 32)) = w0 at *
  refine (HG w0 SZ).out.mono ?_
  rintro e w1 ⟨rfl, b1⟩
  have X1 := X0.on b1 X0.lt
  have Z1 := Z0.on b1 Z0.lt
  have B1 := B0.trans (b1.mono B0.size)
  have S1 := S0.below (b1.mono B0.size)
  clear X0 Z0 B0 S0 SZ HG x0 x1 x2 b1
  rcases g with _ | y
  · simp only [Option.isSome_none, Option.getD_none]
    have b2 : Below w1.heap.size w1 (w1.alloc (.cells (rcs z0.r z0.A z0.c) 42)) := (Below.refl _ _).alloc (Nat.le_refl _) _
    have X2 := X1.on b2 X1.lt
    have Z2 := Z1.on b2 Z1.lt
    have B2 := B1.trans (b2.mono B1.size)
    have S2 := S1.below (b2.mono B1.size)
    clear X1 Z1 B1 S1 b2
    obtain ⟨z0, z1, z2, z3, z4, z5, z6, z7, z8⟩ := id Z2.cc
    have g0 := Z2.free 0
    have g1 := Z2.free 1
    have g2 := Z2.free 2
    have g3 := Z2.free 3
    have g4 := Z2.free 4
    have g5 := Z2.free 5
    have g6 := Z2.free 6
    have g7 := Z2.free 7
    have g8 := Z2.free 8
    go_wp2
    exact bodyPost_ret (run_takeFirst (B := w.heap.size + 1) rfl rfl (Z2.put c0 none 0)) rfl ⟨none, 0, rfl, .inl rfl, below_cput B2 (B := w.heap.size + 1) (Nat.le_succ _) c0 none 0⟩
  · simp only [Option.isSome_some, Option.getD_some]
    have hy := HM.out y rfl
    have b2 : Below w1.heap.size w1 (w1.alloc (.cells (rcs y.r y.A y.c) 42)) := (Below.refl _ _).alloc (Nat.le_refl _) _
    have Y2 := rx_new w1 y.r y.A y.c
    have X2 := X1.on b2 X1.lt
    have Z2 := Z1.on b2 Z1.lt
    have B2 := B1.trans (b2.mono B1.size)
    have S2 := S1.below (b2.mono B1.size)
    clear X1 Z1 B1 S1 b2
    obtain ⟨y0, y1, y2, y3, y4, y5, y6, y7, y8, y9, y10, y11, y12⟩ := id Y2.rb
    have HW := Lib.hid (with_any 2 y.r y.A y.c _ ((S2.of hy).mono B2.size) (hl.2 y hy))
    go_wp2_with fail
    refine HW.out.mono ?_
    rintro e w3 ⟨A9, c9, rfl, f3, b3⟩
    have Z3 := Z2.on b3 Z2.lt
    have B3 := B2.trans (b3.mono B2.size)
    have l2 := Z2.lt
    have hB2 := B2.size
    clear HW Y2 y0 y1 y2 y3 y4 y5 y6 y7 y8 y9 y10 y11 y12
    obtain ⟨z0, z1, z2, z3, z4, z5, z6, z7, z8⟩ := id Z3.cc
    have g0 := Z3.free 0
    have g1 := Z3.free 1
    have g2 := Z3.free 2
    have g3 := Z3.free 3
    have g4 := Z3.free 4
    have g5 := Z3.free 5
    have g6 := Z3.free 6
    have g7 := Z3.free 7
    have g8 := Z3.free 8
    go_wp2
    exact bodyPost_ret (run_takeFirst (B := w.heap.size + 1) rfl rfl (Z3.put (cw 2 y.r) A9 c9)) rfl ⟨A9, c9, rfl, (f3.cput (B := w.heap.size + 1) l2 (cw 2 y.r) A9 c9).mono hB2, below_cput B3 (B := w.heap.size + 1) (Nat.le_succ _) (cw 2 y.r) A9 c9⟩

theorem run_again {V : World} {tm : Array Value} {B : Nat} {x : Ch} {A : Option Addr} {c : Nat} {b : Bool} (h2 : tm[2]?.getD undef = .pointer (some ⟨B, 0, none⟩)) (h3 : tm[3]?.getD undef = .bool b) (hb : Cx V B x A c) :
    (results Try.f24 tm).run Try.prog V = .ok (.tuple #[chv x A c, .bool b]) V := by
  obtain ⟨c0, c1, c2, c3, c4, c5, c6, c7, c8⟩ := hb.cc
  simp [results, Try.f24, go_sem, h2, h3, c0, c1, c2, c3, c4, c5, c6, c7, c8]
set_option maxHeartbeats 1000000 in
theorem again_any (n : Nat) (h7 : n ≤ 7) (o : Int) (A : Option Addr) (c : Nat) (L : List Rp) (hl : Few L) (w : World) (hs : Ls w w.heap.size A L) : Calls Try.prog 24 #[hv n o A L.length c] w (ChoPost w (co c3 (gt 1 (ct L n))) (gt 1 (ct L n)).isSome) := by
  have X0 : Hx ((w.alloc (.cells #[.int .i64 (n : Int), .int .i64 o, .slice A L.length c] 48)).alloc (.cells #[.int .i64 0, .int .i64 0, .int .i64 0, .int .i64 0, .int .i64 0, .int .i64 0, .string ⟨#[]⟩, .int .i64 0, .slice none 0 0] 32)) w.heap.size n o A L.length c := (hx_new w n o A L.length c).old _
  have Z0 : Cx ((w.alloc (.cells #[.int .i64 (n : Int), .int .i64 o, .slice A L.length c] 48)).alloc (.cells #[.int .i64 0, .int .i64 0, .int .i64 0, .int .i64 0, .int .i64 0, .int .i64 0, .string ⟨#[]⟩, .int .i64 0, .slice none 0 0] 32)) (w.heap.size + 1) c0 none 0 := by
    have h0 := cx_zero (w.alloc (.cells #[.int .i64 (n : Int), .int .i64 o, .slice A L.length c] 48))
    rw [show (w.alloc (.cells #[.int .i64 (n : Int), .int .i64 o, .slice A L.length c] 48)).heap.size = w.heap.size + 1 by simp] at h0
    exact h0
  have B0 : Below w.heap.size w ((w.alloc (.cells #[.int .i64 (n : Int), .int .i64 o, .slice A L.length c] 48)).alloc (.cells #[.int .i64 0, .int .i64 0, .int .i64 0, .int .i64 0, .int .i64 0, .int .i64 0, .string ⟨#[]⟩, .int .i64 0, .slice none 0 0] 32)) := ((Below.refl _ _).alloc (Nat.le_refl _) _).alloc (by simp) _
  have S0 : Ls ((w.alloc (.cells #[.int .i64 (n : Int), .int .i64 o, .slice A L.length c] 48)).alloc (.cells #[.int .i64 0, .int .i64 0, .int .i64 0, .int .i64 0, .int .i64 0, .int .i64 0, .string ⟨#[]⟩, .int .i64 0, .slice none 0 0] 32)) w.heap.size A L := hs.below B0
  obtain ⟨x0, x1, x2⟩ := id X0.cells
  have HG : ∀ V, Ls V V.heap.size A L → Hid (Calls Try.prog 35 #[hv n o A L.length c, .int .i64 1] V (RcP V (gt 1 (ct L n)))) := fun V g => greatest_any 1 n h7 o A c L hl.1 V g
  generalize gt 1 (ct L n) = g at *
  have SZ := S0.mono B0.size
  go_enter Try.func24, Try.ntmps24
  go_wp2_with fail
  generalize ((w.alloc (.cells #[.int .i64 (n : Int), .int .i64 o, .slice A L.length c] 48)).alloc (.cells #[.int .i64 0, .int .i64 0, .int .i64 0, .int .i64 0, .int .i64 0, .int .i64 0, .string ⟨#[]⟩, .int .i64 0, .slice none 0 0] 32)) = w0 at *
  refine (HG w0 SZ).out.mono ?_
  rintro e w1 ⟨rfl, b1⟩
  have X1 := X0.on b1 X0.lt
  have Z1 := Z0.on b1 Z0.lt
  have B1 := B0.trans (b1.mono B0.size)
  have S1 := S0.below (b1.mono B0.size)
  clear X0 Z0 B0 S0 SZ HG x0 x1 x2 b1
  rcases g with _ | y
  · simp only [Option.isSome_none, Option.getD_none]
    have b2 : Below w1.heap.size w1 (w1.alloc (.cells (rcs z0.r z0.A z0.c) 42)) := (Below.refl _ _).alloc (Nat.le_refl _) _
    have X2 := X1.on b2 X1.lt
    have Z2 := Z1.on b2 Z1.lt
    have B2 := B1.trans (b2.mono B1.size)
    have S2 := S1.below (b2.mono B1.size)
    clear X1 Z1 B1 S1 b2
    obtain ⟨z0, z1, z2, z3, z4, z5, z6, z7, z8⟩ := id Z2.cc
    have g0 := Z2.free 0
    have g1 := Z2.free 1
    have g2 := Z2.free 2
    have g3 := Z2.free 3
    have g4 := Z2.free 4
    have g5 := Z2.free 5
    have g6 := Z2.free 6
    have g7 := Z2.free 7
    have g8 := Z2.free 8
    go_wp2
    exact bodyPost_ret (run_again (B := w.heap.size + 1) rfl rfl (Z2.put c0 none 0)) rfl ⟨none, 0, rfl, .inl rfl, below_cput B2 (B := w.heap.size + 1) (Nat.le_succ _) c0 none 0⟩
  · simp only [Option.isSome_some, Option.getD_some]
    have b2 : Below w1.heap.size w1 (w1.alloc (.cells (rcs y.r y.A y.c) 42)) := (Below.refl _ _).alloc (Nat.le_refl _) _
    have Y2 := rx_new w1 y.r y.A y.c
    have X2 := X1.on b2 X1.lt
    have Z2 := Z1.on b2 Z1.lt
    have B2 := B1.trans (b2.mono B1.size)
    have S2 := S1.below (b2.mono B1.size)
    clear X1 Z1 B1 S1 b2
    obtain ⟨y0, y1, y2, y3, y4, y5, y6, y7, y8, y9, y10, y11, y12⟩ := id Y2.rb
    obtain ⟨z0, z1, z2, z3, z4, z5, z6, z7, z8⟩ := id Z2.cc
    have g0 := Z2.free 0
    have g1 := Z2.free 1
    have g2 := Z2.free 2
    have g3 := Z2.free 3
    have g4 := Z2.free 4
    have g5 := Z2.free 5
    have g6 := Z2.free 6
    have g7 := Z2.free 7
    have g8 := Z2.free 8
    go_wp2
    exact bodyPost_ret (run_again (B := w.heap.size + 1) rfl rfl (Z2.put (c3 y.r) none 0)) rfl ⟨none, 0, rfl, .inl rfl, below_cput B2 (B := w.heap.size + 1) (Nat.le_succ _) (c3 y.r) none 0⟩

theorem run_takeAcc {V : World} {tm : Array Value} {B : Nat} {x : Ch} {A : Option Addr} {c : Nat} {b : Bool} (h2 : tm[2]?.getD undef = .pointer (some ⟨B, 0, none⟩)) (h3 : tm[3]?.getD undef = .bool b) (hb : Cx V B x A c) :
    (results Try.f22 tm).run Try.prog V = .ok (.tuple #[chv x A c, .bool b]) V := by
  obtain ⟨c0, c1, c2, c3, c4, c5, c6, c7, c8⟩ := hb.cc
  simp [results, Try.f22, go_sem, h2, h3, c0, c1, c2, c3, c4, c5, c6, c7, c8]
set_option maxHeartbeats 2000000 in
theorem takeAcc_any (n : Nat) (h7 : n ≤ 7) (o : Int) (A : Option Addr) (c : Nat) (L : List Rp) (hl : Few L) (w : World) (hs : Ls w w.heap.size A L) : Calls Try.prog 22 #[hv n o A L.length c] w (ChoPost w (co (cw 2) (tk (ct L n))) (tk (ct L n)).isSome) := by
  have X0 : Hx ((w.alloc (.cells #[.int .i64 (n : Int), .int .i64 o, .slice A L.length c] 48)).alloc (.cells #[.int .i64 0, .int .i64 0, .int .i64 0, .int .i64 0, .int .i64 0, .int .i64 0, .string ⟨#[]⟩, .int .i64 0, .slice none 0 0] 32)) w.heap.size n o A L.length c := (hx_new w n o A L.length c).old _
  have Z0 : Cx ((w.alloc (.cells #[.int .i64 (n : Int), .int .i64 o, .slice A L.length c] 48)).alloc (.cells #[.int .i64 0, .int .i64 0, .int .i64 0, .int .i64 0, .int .i64 0, .int .i64 0, .string ⟨#[]⟩, .int .i64 0, .slice none 0 0] 32)) (w.heap.size + 1) c0 none 0 := by
    have h0 := cx_zero (w.alloc (.cells #[.int .i64 (n : Int), .int .i64 o, .slice A L.length c] 48))
    rw [show (w.alloc (.cells #[.int .i64 (n : Int), .int .i64 o, .slice A L.length c] 48)).heap.size = w.heap.size + 1 by simp] at h0
    exact h0
  have B0 : Below w.heap.size w ((w.alloc (.cells #[.int .i64 (n : Int), .int .i64 o, .slice A L.length c] 48)).alloc (.cells #[.int .i64 0, .int .i64 0, .int .i64 0, .int .i64 0, .int .i64 0, .int .i64 0, .string ⟨#[]⟩, .int .i64 0, .slice none 0 0] 32)) := ((Below.refl _ _).alloc (Nat.le_refl _) _).alloc (by simp) _
  have S0 : Ls ((w.alloc (.cells #[.int .i64 (n : Int), .int .i64 o, .slice A L.length c] 48)).alloc (.cells #[.int .i64 0, .int .i64 0, .int .i64 0, .int .i64 0, .int .i64 0, .int .i64 0, .string ⟨#[]⟩, .int .i64 0, .slice none 0 0] 32)) w.heap.size A L := hs.below B0
  obtain ⟨x0, x1, x2⟩ := id X0.cells
  have HG : ∀ V, Ls V V.heap.size A L → Hid (Calls Try.prog 35 #[hv n o A L.length c, .int .i64 2] V (RcP V (gt 2 (ct L n)))) := fun V g => greatest_any 2 n h7 o A c L hl.1 V g
  have HP : ∀ V, Ls V V.heap.size A L → Hid (Calls Try.prog 35 #[hv n o A L.length c, .int .i64 1] V (RcP V (gt 1 (ct L n)))) := fun V g => greatest_any 1 n h7 o A c L hl.1 V g
  have HM : Hid (∀ y, gt 2 (ct L n) = some y → y ∈ L) := Lib.hid (fun y h => ct_mem (gt_mem h))
  generalize hk : tk (ct L n) = k at *
  unfold tk at hk
  generalize gt 2 (ct L n) = g at *
  generalize gt 1 (ct L n) = g1 at *
  have HK := Lib.hid hk.symm
  clear hk
  have SZ := S0.mono B0.size
  go_enter Try.func22, Try.ntmps22
  go_wp2_with fail
  generalize ((w.alloc (.cells #[.int .i64 (n : Int), .int .i64 o, .slice A L.length c] 48)).alloc (.cells #[.int .i64 0, .int .i64 0, .int .i64 0, .int .i64 0, .int .i64 0, .int .i64 0, .string ⟨#[]⟩, .int .i64 0, .slice none 0 0] 32)) = w0 at *
  refine (HG w0 SZ).out.mono ?_
  rintro e w1 ⟨rfl, b1⟩
  have X1 := X0.on b1 X0.lt
  have Z1 := Z0.on b1 Z0.lt
  have B1 := B0.trans (b1.mono B0.size)
  have S1 := S0.below (b1.mono B0.size)
  clear X0 Z0 B0 S0 SZ HG x0 x1 x2 b1
  rcases g with _ | a
  · have E : Hid (k = none) := HK
    clear HK
    simp only [Option.isSome_none, Option.getD_none]
    have b2 : Below w1.heap.size w1 (w1.alloc (.cells (rcs z0.r z0.A z0.c) 42)) := (Below.refl _ _).alloc (Nat.le_refl _) _
    have X2 := X1.on b2 X1.lt
    have Z2 := Z1.on b2 Z1.lt
    have B2 := B1.trans (b2.mono B1.size)
    have S2 := S1.below (b2.mono B1.size)
    clear X1 Z1 B1 S1 b2 HP
    obtain ⟨z0, z1, z2, z3, z4, z5, z6, z7, z8⟩ := id Z2.cc
    have g0 := Z2.free 0
    have g1 := Z2.free 1
    have g2 := Z2.free 2
    have g3 := Z2.free 3
    have g4 := Z2.free 4
    have g5 := Z2.free 5
    have g6 := Z2.free 6
    have g7 := Z2.free 7
    have g8 := Z2.free 8
    go_wp2
    exact bodyPost_ret (v := .tuple #[chv c0 none 0, .bool false]) (run_takeAcc (B := w.heap.size + 1) rfl rfl (Z2.put c0 none 0)) rfl (by rw [E.out]; exact ⟨none, 0, rfl, .inl rfl, below_cput B2 (B := w.heap.size + 1) (Nat.le_succ _) c0 none 0⟩)
  · simp only [Option.isSome_some, Option.getD_some]
    have hy := HM.out a rfl
    have b2 : Below w1.heap.size w1 (w1.alloc (.cells (rcs a.r a.A a.c) 42)) := (Below.refl _ _).alloc (Nat.le_refl _) _
    have Y2 := rx_new w1 a.r a.A a.c
    have X2 := X1.on b2 X1.lt
    have Z2 := Z1.on b2 Z1.lt
    have B2 := B1.trans (b2.mono B1.size)
    have S2 := S1.below (b2.mono B1.size)
    clear X1 Z1 B1 S1 b2
    obtain ⟨x0, x1, x2⟩ := id X2.cells
    have HP2 := Lib.hid (HP _ (S2.mono B2.size)).out
    have l2 := Y2.lt
    go_wp2_with fail
    generalize w1.alloc (.cells (rcs a.r a.A a.c) 42) = w2 at *
    refine HP2.out.mono ?_
    rintro e w3 ⟨rfl, b3⟩
    have X3 := X2.on b3 X2.lt
    have Z3 := Z2.on b3 Z2.lt
    have B3 := B2.trans (b3.mono B2.size)
    have S3 := S2.below (b3.mono B2.size)
    have Y3 := Y2.on b3 Y2.lt
    clear X2 Z2 B2 S2 Y2 b3 HP HP2 x0 x1 x2
    rcases g1 with _ | p
    · have E : Hid (k = some a) := HK
      clear HK
      simp only [Option.isSome_none, Option.getD_none]
      have b4 : Below w3.heap.size w3 (w3.alloc (.cells (rcs z0.r z0.A z0.c) 42)) := (Below.refl _ _).alloc (Nat.le_refl _) _
      have X4 := X3.on b4 X3.lt
      have Z4 := Z3.on b4 Z3.lt
      have B4 := B3.trans (b4.mono B3.size)
      have S4 := S3.below (b4.mono B3.size)
      have Y4 := Y3.on b4 Y3.lt
      clear X3 Z3 B3 S3 Y3 b4
      obtain ⟨y0, y1, y2, y3, y4, y5, y6, y7, y8, y9, y10, y11, y12⟩ := id Y4.rb
      have HW := Lib.hid (with_any 2 a.r a.A a.c _ ((S4.of hy).mono B4.size) (hl.2 a hy))
      go_wp2_with fail
      refine HW.out.mono ?_
      rintro e w9 ⟨A9, c9, rfl, f9, b9⟩
      have Z9 := Z4.on b9 Z4.lt
      have B9 := B4.trans (b9.mono B4.size)
      have l2 := Z4.lt
      have hB2 := B4.size
      clear HW
      obtain ⟨z0, z1, z2, z3, z4, z5, z6, z7, z8⟩ := id Z9.cc
      have g0 := Z9.free 0
      have g1 := Z9.free 1
      have g2 := Z9.free 2
      have g3 := Z9.free 3
      have g4 := Z9.free 4
      have g5 := Z9.free 5
      have g6 := Z9.free 6
      have g7 := Z9.free 7
      have g8 := Z9.free 8
      go_wp2
      exact bodyPost_ret (v := .tuple #[chv (cw 2 a.r) A9 c9, .bool true]) (run_takeAcc (B := w.heap.size + 1) rfl rfl (Z9.put (cw 2 a.r) A9 c9)) rfl (by rw [E.out]; exact ⟨A9, c9, rfl, (f9.cput (B := w.heap.size + 1) l2 (cw 2 a.r) A9 c9).mono hB2, below_cput B9 (B := w.heap.size + 1) (Nat.le_succ _) (cw 2 a.r) A9 c9⟩)
    · simp only [Option.isSome_some, Option.getD_some]
      have b4 : Below w3.heap.size w3 (w3.alloc (.cells (rcs p.r p.A p.c) 42)) := (Below.refl _ _).alloc (Nat.le_refl _) _
      have P4 := rx_new w3 p.r p.A p.c
      have X4 := X3.on b4 X3.lt
      have Z4 := Z3.on b4 Z3.lt
      have B4 := B3.trans (b4.mono B3.size)
      have S4 := S3.below (b4.mono B3.size)
      have Y4 := Y3.on b4 Y3.lt
      clear X3 Z3 B3 S3 Y3 b4
      obtain ⟨y0, y1, y2, y3, y4, y5, y6, y7, y8, y9, y10, y11, y12⟩ := id Y4.rb
      obtain ⟨p0, p1, p2, p3, p4, p5, p6, p7, p8, p9, p10, p11, p12⟩ := id P4.rb
      have HC := Lib.hid (Ba.cmp_any p.r.vn p.r.vb a.r.vn a.r.vb (w3.alloc (.cells (rcs p.r p.A p.c) 42)))
      have hcv : Ba.cm p.r.vn p.r.vb a.r.vn a.r.vb = cv2 p a := rfl
      rw [hcv] at HC
      clear hcv
      replace HK : Hid (k = if 0 < cv2 p a then none else some a) := HK
      generalize cv2 p a = m at *
      have l4 := Y4.lt
      have k4 := P4.lt
      by_cases hm : 0 < m
      · have E : Hid (k = none) := Lib.hid (HK.out.trans (if_pos hm))
        clear HK
        go_wp2_with fail
        generalize w3.alloc (.cells (rcs p.r p.A p.c) 42) = w4 at *
        refine HC.out.mono ?_
        rintro e w5 ⟨rfl, b5⟩
        have X5 := X4.on b5 X4.lt
        have Z5 := Z4.on b5 Z4.lt
        have B5 := B4.trans (b5.mono B4.size)
        have S5 := S4.below (b5.mono B4.size)
        have Y5 := Y4.on b5 Y4.lt
        clear X4 Z4 B4 S4 Y4 P4 b5 HC y0 y1 y2 y3 y4 y5 y6 y7 y8 y9 y10 y11 y12 p0 p1 p2 p3 p4 p5 p6 p7 p8 p9 p10 p11 p12
        obtain ⟨y0, y1, y2, y3, y4, y5, y6, y7, y8, y9, y10, y11, y12⟩ := id Y5.rb
        obtain ⟨z0, z1, z2, z3, z4, z5, z6, z7, z8⟩ := id Z5.cc
        have g0 := Z5.free 0
        have g1 := Z5.free 1
        have g2 := Z5.free 2
        have g3 := Z5.free 3
        have g4 := Z5.free 4
        have g5 := Z5.free 5
        have g6 := Z5.free 6
        have g7 := Z5.free 7
        have g8 := Z5.free 8
        go_wp2
        exact bodyPost_ret (v := .tuple #[chv c0 none 0, .bool false]) (run_takeAcc (B := w.heap.size + 1) rfl rfl (Z5.put c0 none 0)) rfl (by rw [E.out]; exact ⟨none, 0, rfl, .inl rfl, below_cput B5 (B := w.heap.size + 1) (Nat.le_succ _) c0 none 0⟩)
      · have E : Hid (k = some a) := Lib.hid (HK.out.trans (if_neg hm))
        clear HK
        go_wp2_with fail
        generalize w3.alloc (.cells (rcs p.r p.A p.c) 42) = w4 at *
        refine HC.out.mono ?_
        rintro e w5 ⟨rfl, b5⟩
        have X5 := X4.on b5 X4.lt
        have Z5 := Z4.on b5 Z4.lt
        have B5 := B4.trans (b5.mono B4.size)
        have S5 := S4.below (b5.mono B4.size)
        have Y5 := Y4.on b5 Y4.lt
        clear X4 Z4 B4 S4 Y4 P4 b5 HC y0 y1 y2 y3 y4 y5 y6 y7 y8 y9 y10 y11 y12 p0 p1 p2 p3 p4 p5 p6 p7 p8 p9 p10 p11 p12
        obtain ⟨y0, y1, y2, y3, y4, y5, y6, y7, y8, y9, y10, y11, y12⟩ := id Y5.rb
        have HW := Lib.hid (with_any 2 a.r a.A a.c _ ((S5.of hy).mono B5.size) (hl.2 a hy))
        go_wp2_with fail
        refine HW.out.mono ?_
        rintro e w9 ⟨A9, c9, rfl, f9, b9⟩
        have Z9 := Z5.on b9 Z5.lt
        have B9 := B5.trans (b9.mono B5.size)
        have l2 := Z5.lt
        have hB2 := B5.size
        clear HW
        obtain ⟨z0, z1, z2, z3, z4, z5, z6, z7, z8⟩ := id Z9.cc
        have g0 := Z9.free 0
        have g1 := Z9.free 1
        have g2 := Z9.free 2
        have g3 := Z9.free 3
        have g4 := Z9.free 4
        have g5 := Z9.free 5
        have g6 := Z9.free 6
        have g7 := Z9.free 7
        have g8 := Z9.free 8
        go_wp2
        exact bodyPost_ret (v := .tuple #[chv (cw 2 a.r) A9 c9, .bool true]) (run_takeAcc (B := w.heap.size + 1) rfl rfl (Z9.put (cw 2 a.r) A9 c9)) rfl (by rw [E.out]; exact ⟨A9, c9, rfl, (f9.cput (B := w.heap.size + 1) l2 (cw 2 a.r) A9 c9).mono hB2, below_cput B9 (B := w.heap.size + 1) (Nat.le_succ _) (cw 2 a.r) A9 c9⟩)

theorem run_wait {V : World} {tm : Array Value} {B : Nat} {x : Ch} {A : Option Addr} {c : Nat} {b : Bool} (h2 : tm[2]?.getD undef = .pointer (some ⟨B, 0, none⟩)) (h3 : tm[3]?.getD undef = .bool b) (hb : Cx V B x A c) :
    (results Try.f21 tm).run Try.prog V = .ok (.tuple #[chv x A c, .bool b]) V := by
  obtain ⟨c0, c1, c2, c3, c4, c5, c6, c7, c8⟩ := hb.cc
  simp [results, Try.f21, go_sem, h2, h3, c0, c1, c2, c3, c4, c5, c6, c7, c8]
set_option maxHeartbeats 1000000 in
theorem wait_any (n : Nat) (h1 : 1 ≤ n) (h7 : n ≤ 7) (o : Int) (A : Option Addr) (c : Nat) (L : List Rp) (hl : Few L) (w : World) (hs : Ls w w.heap.size A L) : Calls Try.prog 21 #[hv n o A L.length c] w (ChoPost w c0 (decide ((ct L n).length < n / 2 + 1))) := by
  have X0 : Hx ((w.alloc (.cells #[.int .i64 (n : Int), .int .i64 o, .slice A L.length c] 48)).alloc (.cells #[.int .i64 0, .int .i64 0, .int .i64 0, .int .i64 0, .int .i64 0, .int .i64 0, .string ⟨#[]⟩, .int .i64 0, .slice none 0 0] 32)) w.heap.size n o A L.length c := (hx_new w n o A L.length c).old _
  have Z0 : Cx ((w.alloc (.cells #[.int .i64 (n : Int), .int .i64 o, .slice A L.length c] 48)).alloc (.cells #[.int .i64 0, .int .i64 0, .int .i64 0, .int .i64 0, .int .i64 0, .int .i64 0, .string ⟨#[]⟩, .int .i64 0, .slice none 0 0] 32)) (w.heap.size + 1) c0 none 0 := by
    have h0 := cx_zero (w.alloc (.cells #[.int .i64 (n : Int), .int .i64 o, .slice A L.length c] 48))
    rw [show (w.alloc (.cells #[.int .i64 (n : Int), .int .i64 o, .slice A L.length c] 48)).heap.size = w.heap.size + 1 by simp] at h0
    exact h0
  have B0 : Below w.heap.size w ((w.alloc (.cells #[.int .i64 (n : Int), .int .i64 o, .slice A L.length c] 48)).alloc (.cells #[.int .i64 0, .int .i64 0, .int .i64 0, .int .i64 0, .int .i64 0, .int .i64 0, .string ⟨#[]⟩, .int .i64 0, .slice none 0 0] 32)) := ((Below.refl _ _).alloc (Nat.le_refl _) _).alloc (by simp) _
  have S0 : Ls ((w.alloc (.cells #[.int .i64 (n : Int), .int .i64 o, .slice A L.length c] 48)).alloc (.cells #[.int .i64 0, .int .i64 0, .int .i64 0, .int .i64 0, .int .i64 0, .int .i64 0, .string ⟨#[]⟩, .int .i64 0, .slice none 0 0] 32)) w.heap.size A L := hs.below B0
  obtain ⟨x0, x1, x2⟩ := id X0.cells
  have C0 : ∀ V, Below (w.heap.size + 1) ((w.alloc (.cells #[.int .i64 (n : Int), .int .i64 o, .slice A L.length c] 48)).alloc (.cells #[.int .i64 0, .int .i64 0, .int .i64 0, .int .i64 0, .int .i64 0, .int .i64 0, .string ⟨#[]⟩, .int .i64 0, .slice none 0 0] 32)) V → Hid (Calls Try.prog 31 #[hv n o A L.length c] V (IntP V ((cta L n).length : Int))) := fun V g => count_any n h7 o A c L hl.1 V ((S0.below (g.mono (Nat.le_succ _))).mono (Nat.le_trans B0.size g.size))
  have C2 : ∀ V, Hid (Calls Try.prog 13 #[.int .i64 (n : Int)] V (IntP V (qu (am (n : Int))))) := fun V => Quorum_any n V
  have hlen : (cta L n).length = (ct L n).length := by rw [← cta_val]; simp
  rw [hlen] at C0
  have hq : qu (am (n : Int)) = n / 2 + 1 := by
    have := am_in (n := (n : Int)) (by omega) (by omega)
    unfold qu
    omega
  rw [hq] at C2
  have hd : decide ((ct L n).length < n / 2 + 1) = decide (((ct L n).length : Int) < ((n / 2 + 1 : Nat) : Int)) := by simp only [Int.ofNat_lt]
  rw [hd]
  clear hd hlen hq
  generalize (((n / 2 + 1 : Nat)) : Int) = q at *
  generalize ((ct L n).length : Int) = m at *
  have sz : ((w.alloc (.cells #[.int .i64 (n : Int), .int .i64 o, .slice A L.length c] 48)).alloc (.cells #[.int .i64 0, .int .i64 0, .int .i64 0, .int .i64 0, .int .i64 0, .int .i64 0, .string ⟨#[]⟩, .int .i64 0, .slice none 0 0] 32)).heap.size = w.heap.size + 1 + 1 := by simp
  generalize hW : ((w.alloc (.cells #[.int .i64 (n : Int), .int .i64 o, .slice A L.length c] 48)).alloc (.cells #[.int .i64 0, .int .i64 0, .int .i64 0, .int .i64 0, .int .i64 0, .int .i64 0, .string ⟨#[]⟩, .int .i64 0, .slice none 0 0] 32)) = W0 at *
  have SB : Hid (∀ v, Below (w.heap.size + 1) W0 v → v.cell? ⟨w.heap.size, 0, none⟩ = some (.int .i64 (n : Int)) ∧ v.cell? ⟨w.heap.size, 1, none⟩ = some (.int .i64 o) ∧ v.cell? ⟨w.heap.size, 2, none⟩ = some (.slice A L.length c)) := Lib.hid (fun v g => (X0.on g (Nat.lt_succ_self _)).cells)
  have BD : Hid (Below (w.heap.size + 1) W0 W0.drew) := (Below.refl _ _).drew
  have HB := Lib.hid B0
  have ZA := Lib.hid Z0
  have SZ := Lib.hid sz
  have C1 := C0
  clear B0 X0 Z0 sz S0 C0 hs x0 x1 x2
  subst hW
  go_enter Try.func21, Try.ntmps21
  go_wp2_with fail
  generalize hW : ((w.alloc (.cells #[.int .i64 (n : Int), .int .i64 o, .slice A L.length c] 48)).alloc (.cells #[.int .i64 0, .int .i64 0, .int .i64 0, .int .i64 0, .int .i64 0, .int .i64 0, .string ⟨#[]⟩, .int .i64 0, .slice none 0 0] 32)) = W0 at *
  clear hW
  refine wp_region_held_drew (S := fun v => Below (w.heap.size + 1) W0 v) (by kernel_rfl) BD.out (fun hH => ?_)
  refine wpAnyH_take (i := 0) (v := ?v1) rfl (by kernel_rfl) (by kernel_rfl) (by kernel_rfl) (fun _ _ _ h => h) (Or.inl ⟨by rfl, ?hy1⟩) hH ?rest1
  case hy1 => (intro w hSw; (try dsimp only at hSw); go_simp; try with_reducible rfl)
  try simp only [Act.put, List.setIfInBounds_toArray, List.set_cons_zero, List.set_cons_succ, List.getElem_toArray, List.getElem_cons_zero]
  refine wpAnyH_take (i := 1) (v := ?v2) rfl (by kernel_rfl) (by kernel_rfl) (by kernel_rfl) (fun _ _ _ h => h) (Or.inl ⟨by rfl, ?hy2⟩) hH ?rest2
  case hy2 => (intro w hSw; (try dsimp only at hSw); obtain ⟨p0, p1, p2⟩ := SB.out w hSw; go_simp; try with_reducible rfl)
  try simp only [Act.put, List.setIfInBounds_toArray, List.set_cons_zero, List.set_cons_succ, List.getElem_toArray, List.getElem_cons_zero, List.getElem_cons_succ]
  refine wpAnyH_take (i := 3) (v := ?v3) rfl (by kernel_rfl) (by kernel_rfl) (by kernel_rfl) (fun _ _ _ h => h) (Or.inl ⟨by rfl, ?hy3⟩) hH ?rest3
  case hy3 => (intro w hSw; (try dsimp only at hSw); go_simp; try with_reducible rfl)
  try simp only [Act.put, List.setIfInBounds_toArray, List.set_cons_zero, List.set_cons_succ, List.getElem_toArray, List.getElem_cons_zero, List.getElem_cons_succ]
  refine wpAnyH_take (i := 4) (v := ?v4) rfl (by kernel_rfl) (by kernel_rfl) (by kernel_rfl) (fun _ _ _ h => h) (Or.inl ⟨by rfl, ?hy4⟩) hH ?rest4
  case hy4 => (intro w hSw; (try dsimp only at hSw); obtain ⟨p0, p1, p2⟩ := SB.out w hSw; go_simp; try with_reducible rfl)
  try simp only [Act.put, List.setIfInBounds_toArray, List.set_cons_zero, List.set_cons_succ, List.getElem_toArray, List.getElem_cons_zero, List.getElem_cons_succ]
  refine wpAnyH_ready (rs := [2]) (by kernel_rfl) (by simp) ?_
  refine AllReadyH.cons rfl (fun K hK => ?_) AllReadyH.nil
  go_simp
  go_at_call 31
  with_reducible refine (C1 _ hH).out.mono ?_
  rintro e wq5 ⟨rfl, bq5⟩
  go_wp2_with fail
  refine hK.out _ _ (hH.trans (bq5.mono (by have h := hH.size; rw [SZ.out] at h; omega))) (fun hH2 => ?_)
  clear hK K hH
  have hH := hH2
  clear hH2
  try simp only [Act.put, List.setIfInBounds_toArray, List.set_cons_zero, List.set_cons_succ, List.getElem_toArray, List.getElem_cons_zero, List.getElem_cons_succ]
  refine wpAnyH_ready (rs := [5]) (by kernel_rfl) (by simp) ?_
  refine AllReadyH.cons rfl (fun K hK => ?_) AllReadyH.nil
  go_simp
  go_at_call 13
  with_reducible refine (C2 _).out.mono ?_
  rintro e wq6 ⟨rfl, bq6⟩
  go_wp2_with fail
  refine hK.out _ _ (hH.trans (bq6.mono (by have h := hH.size; rw [SZ.out] at h; omega))) (fun hH2 => ?_)
  clear hK K hH
  have hH := hH2
  clear hH2
  try simp only [Act.put, List.setIfInBounds_toArray, List.set_cons_zero, List.set_cons_succ, List.getElem_toArray, List.getElem_cons_zero, List.getElem_cons_succ]
  refine wpAnyH_take (i := 6) (v := ?v7) rfl (by kernel_rfl) (by kernel_rfl) (by kernel_rfl) (fun _ _ _ h => h) (Or.inl ⟨by rfl, ?hy7⟩) hH ?rest7
  case hy7 => (intro w hSw; (try dsimp only at hSw); go_simp; try with_reducible rfl)
  try simp only [Act.put, List.setIfInBounds_toArray, List.set_cons_zero, List.set_cons_succ, List.getElem_toArray, List.getElem_cons_zero, List.getElem_cons_succ]
  refine wpAnyH_ready (rs := [7]) (by kernel_rfl) (by simp) ?_
  refine AllReadyH.cons rfl (fun K hK => ?_) AllReadyH.nil
  have Z9 := ((show Cx W0.drew (w.heap.size + 1) c0 none 0 from ZA.out).on bq5 ZA.out.lt).on bq6 (Nat.lt_of_lt_of_le ZA.out.lt bq5.size)
  have fz := Z9.free
  obtain ⟨z0, z1, z2, z3, z4, z5, z6, z7, z8⟩ := id Z9.cc
  have L9 := below_cput hH (B := w.heap.size + 1) (Nat.le_refl _) c0 none 0
  have E9 := Lib.hid (Z9.put c0 none 0)
  clear Z9
  go_simp
  refine hK.out _ _ (L9) (fun hH2 => ?_)
  clear hK K hH
  have hH := hH2
  clear hH2
  try simp only [Act.put, List.setIfInBounds_toArray, List.set_cons_zero, List.set_cons_succ, List.getElem_toArray, List.getElem_cons_zero, List.getElem_cons_succ]
  refine wpAnyH_take (i := 8) (v := ?v8) rfl (by kernel_rfl) (by kernel_rfl) (by kernel_rfl) (fun _ _ _ h => h) (Or.inl ⟨by rfl, ?hy8⟩) hH ?rest8
  case hy8 => (intro w hSw; (try dsimp only at hSw); go_simp; try with_reducible rfl)
  try simp only [Act.put, List.setIfInBounds_toArray, List.set_cons_zero, List.set_cons_succ, List.getElem_toArray, List.getElem_cons_zero, List.getElem_cons_succ]
  refine wpAnyH_done (by kernel_rfl) ?_ _
  go_wp2_with fail
  exact bodyPost_ret (run_wait (B := w.heap.size + 1) rfl rfl E9.out) rfl ⟨none, 0, rfl, .inl rfl, HB.out.trans (L9.mono (Nat.le_succ _))⟩

end Go.Proofs.Ytgmfjoegfbaebaa.Rg
