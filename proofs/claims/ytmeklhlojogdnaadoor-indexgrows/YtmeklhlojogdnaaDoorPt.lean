/-
  The walk of index's Put: what is known is what 'pt' says. Conditions: the table of what kinds need reads as its initialiser lays it; the index is one that was made; the number is one that an int holds.
-/
import Derived.Test.YtmeklhlojogdnaaDoorTmp
import Derived.Test.YtmeklhlojogdnaaDoorFg
namespace Go.Proofs.YtmeklhlojogdnaaDoor
open Go.RowKit
open Go.ChangeMaps (setBlock)
set_option linter.unusedVariables false

theorem eq52n (w : World) : (binOp .eql 52 (.map none) (.map none)).run Tryd.prog w = .ok (.bool true) w := by kernel_rfl
theorem eq52s (w : World) (K : Nat) : (binOp .eql 52 (.map (some K)) (.map none)).run Tryd.prog w = .ok (.bool false) w := by kernel_rfl
theorem eq61n (w : World) : (binOp .eql 61 (.map none) (.map none)).run Tryd.prog w = .ok (.bool true) w := by kernel_rfl
theorem eq61s (w : World) (K : Nat) : (binOp .eql 61 (.map (some K)) (.map none)).run Tryd.prog w = .ok (.bool false) w := by kernel_rfl

/-- What is known, as a value. -/
abbrev nv (k : Kn) : Value := .agg #[.int .i64 k.i.1, .int .i64 k.i.2, .int .i64 k.c.u, .int .i64 k.c.s, .int .i64 k.c.k, .int .i64 k.c.h, .int .i64 k.c.n, .string k.c.t, .int .i64 k.q]

/-- The index knows L now; what was outside of it is as it was. -/
def PtPost (w : World) (X : Nat) (n : Int) (L : List Kn) (O : Nat → Prop) (e : Ending) (w' : World) : Prop :=
  e = .returned (.tuple #[]) ∧ ∃ O', Ix w' X n L O' ∧ Off O w w' ∧ ∀ r, O' r → O r ∨ w.heap.size ≤ r

theorem kl_two (x : Cd) : (kl x).length ≤ 2 := by
  rcases h : x.on with _ | _
  · rw [kl_no h]; simp
  · rw [kl_yes h]; simp

theorem keepP {w0 v v' : World} {X B D : Nat} {n i1 i2 : Int} (hX : X < D) (hB : B < D) (hS : (v.cell? ⟨X, 0, none⟩ = some (.int .i64 n) ∧ v.cell? ⟨B, 0, none⟩ = some (.int .i64 i1) ∧ v.cell? ⟨B, 1, none⟩ = some (.int .i64 i2)) ∧ Below D w0 v) (hb : Below D v v') :
    (v'.cell? ⟨X, 0, none⟩ = some (.int .i64 n) ∧ v'.cell? ⟨B, 0, none⟩ = some (.int .i64 i1) ∧ v'.cell? ⟨B, 1, none⟩ = some (.int .i64 i2)) ∧ Below D w0 v' :=
  ⟨⟨(hb.cell (p := ⟨X, 0, none⟩) hX).trans hS.1.1, (hb.cell (p := ⟨B, 0, none⟩) hB).trans hS.1.2.1, (hb.cell (p := ⟨B, 1, none⟩) hB).trans hS.1.2.2⟩, hS.2.trans hb⟩

set_option maxHeartbeats 1000000 in
theorem put_no (X : Nat) (n i1 i2 u s kk h m q : Int) (t : ByteArray) (kb tb : Option Nat) (w : World) (hx : Xb w X n kb tb) (hm : mb (i1, i2) (am n) = false) :
    Calls Tryd.prog 14 #[.pointer (some ⟨X, 0, none⟩), .agg #[.int .i64 i1, .int .i64 i2, .int .i64 u, .int .i64 s, .int .i64 kk, .int .i64 h, .int .i64 m, .string t, .int .i64 q]] w fun e w' => e = .returned (.tuple #[]) ∧ Below w.heap.size w w' := by
  have HA : ∀ W, Hid (Calls Tryd.prog 22 #[.int .i64 n] W fun e w' => e = .returned (.int .i64 (am n)) ∧ w' = W) := fun W => among_any n W
  have HMy : ∀ W, Hid (Calls Tryd.prog 24 #[.agg #[.int .i64 i1, .int .i64 i2], .int .i64 (am n)] W (BoolPost W false)) := fun W => by have := may24_any (i1, i2) (am n) W; rw [hm] at this; exact this
  have hXl := hx.lt
  have BW : Below w.heap.size w (w.alloc (.cells #[.int .i64 i1, .int .i64 i2, .int .i64 u, .int .i64 s, .int .i64 kk, .int .i64 h, .int .i64 m, .string t, .int .i64 q] 29)) := (Below.refl _ _).alloc (Nat.le_refl _) _
  have Z0 : (w.alloc (.cells #[.int .i64 i1, .int .i64 i2, .int .i64 u, .int .i64 s, .int .i64 kk, .int .i64 h, .int .i64 m, .string t, .int .i64 q] 29)).heap.size = w.heap.size + 1 := by simp
  have N0 := nb_new w ⟨(i1, i2), ⟨u, s, kk, h, m, t⟩, q⟩
  have X0 := hx.on BW hXl
  generalize hNN : am n = N at *
  go_enter Tryd.func14, Tryd.ntmps14
  go_wp2_with fail
  generalize (w.alloc (.cells #[.int .i64 i1, .int .i64 i2, .int .i64 u, .int .i64 s, .int .i64 kk, .int .i64 h, .int .i64 m, .string t, .int .i64 q] 29)) = W0 at *
  have zX : X < W0.heap.size := by omega
  have zB : w.heap.size < W0.heap.size := by omega
  obtain ⟨b0, b1, b2, b3, b4, b5, b6, b7, b8⟩ := id N0
  have x0 := X0.c0
  have S0 : (W0.cell? ⟨X, 0, none⟩ = some (.int .i64 n) ∧ W0.cell? ⟨w.heap.size, 0, none⟩ = some (.int .i64 i1) ∧ W0.cell? ⟨w.heap.size, 1, none⟩ = some (.int .i64 i2)) ∧ Below W0.heap.size W0 W0 := ⟨⟨x0, b0, b1⟩, Below.refl _ _⟩
  have KD : Hid (∀ v, (v.cell? ⟨X, 0, none⟩ = some (.int .i64 n) ∧ v.cell? ⟨w.heap.size, 0, none⟩ = some (.int .i64 i1) ∧ v.cell? ⟨w.heap.size, 1, none⟩ = some (.int .i64 i2)) ∧ Below W0.heap.size W0 v → (v.drew.cell? ⟨X, 0, none⟩ = some (.int .i64 n) ∧ v.drew.cell? ⟨w.heap.size, 0, none⟩ = some (.int .i64 i1) ∧ v.drew.cell? ⟨w.heap.size, 1, none⟩ = some (.int .i64 i2)) ∧ Below W0.heap.size W0 v.drew) := fun v hS => keepP zX zB hS ((Below.refl _ _).drew)
  have KS : Hid (∀ v v', Below v.heap.size v v' → (v.cell? ⟨X, 0, none⟩ = some (.int .i64 n) ∧ v.cell? ⟨w.heap.size, 0, none⟩ = some (.int .i64 i1) ∧ v.cell? ⟨w.heap.size, 1, none⟩ = some (.int .i64 i2)) ∧ Below W0.heap.size W0 v → (v'.cell? ⟨X, 0, none⟩ = some (.int .i64 n) ∧ v'.cell? ⟨w.heap.size, 0, none⟩ = some (.int .i64 i1) ∧ v'.cell? ⟨w.heap.size, 1, none⟩ = some (.int .i64 i2)) ∧ Below W0.heap.size W0 v') := fun v v' hb hS => keepP zX zB hS (hb.mono hS.2.size)
  clear x0 b0 b1 b2 b3 b4 b5 b6 b7 b8
  obtain ⟨⟨x0, b0, b1⟩, _⟩ := id S0
  go_region_held3 (fun v => (v.cell? ⟨X, 0, none⟩ = some (.int .i64 n) ∧ v.cell? ⟨w.heap.size, 0, none⟩ = some (.int .i64 i1) ∧ v.cell? ⟨w.heap.size, 1, none⟩ = some (.int .i64 i2)) ∧ Below W0.heap.size W0 v)
    (first | (exact S0) | (exact KD.out _ S0) | (refine KD.out _ ?_; assumption) | assumption | (refine KS.out _ _ hb2 ?_; first | assumption | exact KD.out _ S0))
    (first | (go_at_call 22; (with_reducible refine (HA _).out.mono ?_); rintro e wa ⟨rfl, rfl⟩) | (go_at_call 24; (with_reducible refine (HMy _).out.mono ?_); rintro e wb ⟨rfl, hb2⟩))
  rename_i hSx
  have B1 := hSx.2
  clear x0 b0 b1 S0 KD KS
  go_wp2
  refine bodyPost_ret (results_none rfl _ _ _) rfl ?_
  exact ⟨rfl, BW.trans (B1.mono (by omega))⟩

set_option maxHeartbeats 4000000 in
theorem put_made (X K T : Nat) (n i1 i2 u s kk h m q : Int) (t : ByteArray) (O : Nat → Prop) (w : World) (hN : Nd w) (hx : Xb w X n (some K) (some T)) (oX : O X) (oK : O K) (oT : O T) (hKT : K ≠ T) (hlt : ∀ r, O r → r < w.heap.size) (hp : ∀ r, O r → 1 ≤ r) (hm : mb (i1, i2) (am n) = true)
    (L : List Kn) (g : Ky → Int × Int → Option Int) (hk : Km w O K L) (ht : Tm w O K T g) (hGq : Gq L g) (once : L.Pairwise (fun x y => x.i ≠ y.i)) (hwf : Wf (am n) (L.filter (fun x => decide (x.i ≠ (i1, i2))) ++ [⟨(i1, i2), ⟨u, s, kk, h, m, t⟩, q⟩])) :
    Calls Tryd.prog 14 #[.pointer (some ⟨X, 0, none⟩), .agg #[.int .i64 i1, .int .i64 i2, .int .i64 u, .int .i64 s, .int .i64 kk, .int .i64 h, .int .i64 m, .string t, .int .i64 q]] w (PtPost w X n (L.filter (fun x => decide (x.i ≠ (i1, i2))) ++ [⟨(i1, i2), ⟨u, s, kk, h, m, t⟩, q⟩]) O) := by
  have hwf' := Lib.hid hwf
  have hfit : fits i1 ∧ fits i2 := by
    obtain ⟨h1, h2, h3, h4⟩ := mb_iff.1 hm
    have := am_hi n
    exact ⟨⟨by simp only at h1; omega, by simp only at h2; omega⟩, ⟨by simp only at h3; omega, by simp only at h4; omega⟩⟩
  have HO : ∀ W, Nd W → Hid (Calls Tryd.prog 31 #[cv u s kk h m t] W (KrPost W (kl ⟨u, s, kk, h, m, t⟩))) := fun W h' => of_own ⟨u, s, kk, h, m, t⟩ W h'
  generalize hlk : kl ⟨u, s, kk, h, m, t⟩ = lk at HO
  have hmm := @run_makeMap Tryd.prog
  have em1 := eq52n
  have em2 := eq52s
  have em3 := eq61n
  have em4 := eq61s
  clear hwf
  have HA : ∀ W, Hid (Calls Tryd.prog 22 #[.int .i64 n] W fun e w' => e = .returned (.int .i64 (am n)) ∧ w' = W) := fun W => among_any n W
  have HMy : ∀ W, Hid (Calls Tryd.prog 24 #[.agg #[.int .i64 i1, .int .i64 i2], .int .i64 (am n)] W (BoolPost W true)) := fun W => by have := may24_any (i1, i2) (am n) W; rw [hm] at this; exact this
  have hXl := hx.lt
  have BW : Below w.heap.size w (w.alloc (.cells #[.int .i64 i1, .int .i64 i2, .int .i64 u, .int .i64 s, .int .i64 kk, .int .i64 h, .int .i64 m, .string t, .int .i64 q] 29)) := (Below.refl _ _).alloc (Nat.le_refl _) _
  have Z0 : (w.alloc (.cells #[.int .i64 i1, .int .i64 i2, .int .i64 u, .int .i64 s, .int .i64 kk, .int .i64 h, .int .i64 m, .string t, .int .i64 q] 29)).heap.size = w.heap.size + 1 := by simp
  have N0 := nb_new w ⟨(i1, i2), ⟨u, s, kk, h, m, t⟩, q⟩
  have X0 := hx.on BW hXl
  generalize hNN : am n = N at *
  go_enter Tryd.func14, Tryd.ntmps14
  go_wp2_with fail
  generalize (w.alloc (.cells #[.int .i64 i1, .int .i64 i2, .int .i64 u, .int .i64 s, .int .i64 kk, .int .i64 h, .int .i64 m, .string t, .int .i64 q] 29)) = W0 at *
  have zX : X < W0.heap.size := by omega
  have zB : w.heap.size < W0.heap.size := by omega
  obtain ⟨b0, b1, b2, b3, b4, b5, b6, b7, b8⟩ := id N0
  have x0 := X0.c0
  have S0 : (W0.cell? ⟨X, 0, none⟩ = some (.int .i64 n) ∧ W0.cell? ⟨w.heap.size, 0, none⟩ = some (.int .i64 i1) ∧ W0.cell? ⟨w.heap.size, 1, none⟩ = some (.int .i64 i2)) ∧ Below W0.heap.size W0 W0 := ⟨⟨x0, b0, b1⟩, Below.refl _ _⟩
  have KD : Hid (∀ v, (v.cell? ⟨X, 0, none⟩ = some (.int .i64 n) ∧ v.cell? ⟨w.heap.size, 0, none⟩ = some (.int .i64 i1) ∧ v.cell? ⟨w.heap.size, 1, none⟩ = some (.int .i64 i2)) ∧ Below W0.heap.size W0 v → (v.drew.cell? ⟨X, 0, none⟩ = some (.int .i64 n) ∧ v.drew.cell? ⟨w.heap.size, 0, none⟩ = some (.int .i64 i1) ∧ v.drew.cell? ⟨w.heap.size, 1, none⟩ = some (.int .i64 i2)) ∧ Below W0.heap.size W0 v.drew) := fun v hS => keepP zX zB hS ((Below.refl _ _).drew)
  have KS : Hid (∀ v v', Below v.heap.size v v' → (v.cell? ⟨X, 0, none⟩ = some (.int .i64 n) ∧ v.cell? ⟨w.heap.size, 0, none⟩ = some (.int .i64 i1) ∧ v.cell? ⟨w.heap.size, 1, none⟩ = some (.int .i64 i2)) ∧ Below W0.heap.size W0 v → (v'.cell? ⟨X, 0, none⟩ = some (.int .i64 n) ∧ v'.cell? ⟨w.heap.size, 0, none⟩ = some (.int .i64 i1) ∧ v'.cell? ⟨w.heap.size, 1, none⟩ = some (.int .i64 i2)) ∧ Below W0.heap.size W0 v') := fun v v' hb hS => keepP zX zB hS (hb.mono hS.2.size)
  clear x0 b0 b1 b2 b3 b4 b5 b6 b7 b8
  obtain ⟨⟨x0, b0, b1⟩, _⟩ := id S0
  go_region_held3 (fun v => (v.cell? ⟨X, 0, none⟩ = some (.int .i64 n) ∧ v.cell? ⟨w.heap.size, 0, none⟩ = some (.int .i64 i1) ∧ v.cell? ⟨w.heap.size, 1, none⟩ = some (.int .i64 i2)) ∧ Below W0.heap.size W0 v)
    (first | (exact S0) | (exact KD.out _ S0) | (refine KD.out _ ?_; assumption) | assumption | (refine KS.out _ _ hb2 ?_; first | assumption | exact KD.out _ S0))
    (first | (go_at_call 22; (with_reducible refine (HA _).out.mono ?_); rintro e wa ⟨rfl, rfl⟩) | (go_at_call 24; (with_reducible refine (HMy _).out.mono ?_); rintro e wb ⟨rfl, hb2⟩))
  rename_i hSx
  have B1 := hSx.2
  clear x0 b0 b1 S0 KD KS
  have X1 := X0.on B1 zX
  have x1 := X1.c1
  have N1 := N0.on B1 zB
  obtain ⟨b0, b1, b2, b3, b4, b5, b6, b7, b8⟩ := id N1
  have Nd1 := (hN.on BW).on B1
  have BB := BW.trans (B1.mono (by omega))
  have OV : Off O w wb := Off.of_below BB
  have KV := hk.keep (w' := wb) (O' := O) (fun _ h => h) (BB.block K hk.lt) (fun r cs h _ => BB.block r (hlt r h))
  have TV := ht.keep (w' := wb) (O' := O) (fun _ h => h) (BB.block T ht.lt) (fun r h => BB.block r (hlt r h))
  have hlt1 : ∀ r, O r → r < wb.heap.size := fun r h => Nat.lt_of_lt_of_le (hlt r h) BB.size
  have hB1 : ¬ O w.heap.size := fun h => by have := hlt _ h; omega
  have hsub : ∀ r, O r → O r ∨ w.heap.size ≤ r := fun r h => .inl h
  have HLT := Lib.hid hlt1
  clear hlt1
  go_wp2_with fail
  have hlt1 := HLT.out
  clear b0 b1 b2 b3 b4 b5 b6 b7 b8 x1 hk ht hlt X0 N0 HLT
  obtain ⟨O1, hO1⟩ : ∃ O1, O1 = O := ⟨_, rfl⟩
  have oX1 : O1 X := by rw [hO1]; exact oX
  have oK1 : O1 K := by rw [hO1]; exact oK
  have oT1 : O1 T := by rw [hO1]; exact oT
  rw [← hO1] at KV TV
  rw [← hO1] at hlt1 hB1
  have hp1 : ∀ r, O1 r → 1 ≤ r := by rw [hO1]; exact hp
  have hsub : ∀ r, O1 r → O r ∨ w.heap.size ≤ r := by rw [hO1]; exact hsub
  have XV := X1
  have NV := N1
  have NdV := Nd1
  clear X1 N1 Nd1 hp hO1 oK oT
  generalize wb = V at *
  refine (forget_any X K T n (i1, i2) hfit L g O1 V XV oX1 oK1 oT1 hKT KV TV hGq hlt1 once).mono ?_
  rintro e V2 ⟨rfl, O2, X2, K2, T2⟩
  have N2 := NV.off O2 hB1
  have zV : 1 ≤ V.heap.size := by have := hlt1 X oX1; omega
  have Nd2 := NdV.below (B := 1) (O2.below hp1 zV) (by omega)
  have OV2 := OV.trans O2 (fun r h => hsub r h)
  have q2 := O2.size
  have zB2 : w.heap.size < V2.heap.size := N2.lt
  have hlt2 : ∀ r, O1 r → r < V2.heap.size := fun r h => Nat.lt_of_lt_of_le (hlt1 r h) q2
  obtain ⟨b0, b1, b2, b3, b4, b5, b6, b7, b8⟩ := id N2
  clear KV TV XV NV O2 OV hlt1
  go_wp2_with fail
  refine (HO _ Nd2).out.mono ?_
  rintro e V3 ⟨A, c, rfl, kr, B3⟩
  clear b0 b1 b2 b3 b4 b5 b6 b7 b8
  have q3 := B3.size
  have X3 := X2.on B3 (hlt2 X oX1)
  have N3 := N2.on B3 zB2
  have OV3 := OV2.then B3
  have K3 := K2.keep (w' := V3) (O' := O1) (fun _ h => h) (B3.block K (hlt2 K oK1)) (fun r cs h _ => B3.block r (hlt2 r h))
  have T3 := T2.keep (w' := V3) (O' := O1) (fun _ h => h) (B3.block T (hlt2 T oT1)) (fun r h => B3.block r (hlt2 r h))
  obtain ⟨oKd, HU, HKP⟩ := K3.put_ ⟨(i1, i2), ⟨u, s, kk, h, m, t⟩, q⟩ hfit (fun x hx => by simpa using (List.mem_filter.1 hx).2) A c
  have HU7 : (Instr.mapUpdate 52 (.map (some K)) (.agg #[.int .i64 i1, .int .i64 i2]) (.slice A lk.length c)).run Tryd.prog V3.drew = .ok () (setBlock V3.drew K oKd) := by rw [← hlk]; exact HU V3.drew rfl
  have hXK : X ≠ K := by
    obtain ⟨fk, hmo, _⟩ := K3
    have h3 : V3.heap[X]? = some _ := X3
    exact mo_row hmo h3
  have hRK : ∀ r cs t fr, V3.heap[r]? = some (.cells cs t fr) → r ≠ K := fun r cs t fr h' => by
    obtain ⟨fk, hmo, _⟩ := K3
    exact mo_row hmo h'
  have HRK := Lib.hid hRK
  have HKP' := Lib.hid HKP
  obtain ⟨b0, b1, b2, b3, b4, b5, b6, b7, b8⟩ := id N3
  have x1 := X3.c1
  have hKB : w.heap.size ≠ K := fun e => hB1 (by rw [e]; exact oK1)
  clear HU hRK HKP X2 N2 K2 T2 OV2 hSx HO
  go_wp2_with fail
  go_region
  have kl3 : K < V3.drew.heap.size := K3.lt
  have X4 : Xb (setBlock V3.drew K oKd) X n (some K) (some T) := (set_other oKd hXK).trans X3
  have N4 : Nb (setBlock V3.drew K oKd) w.heap.size ⟨(i1, i2), ⟨u, s, kk, h, m, t⟩, q⟩ := N3.off (w' := setBlock V3.drew K oKd) (O := fun r => r = K) (((Off.refl (fun r => r = K) V3).drew).set (b := K) rfl oKd) hKB
  have OV4 : Off O w (setBlock V3.drew K oKd) := OV3.trans (O1 := O1) ((Off.refl _ _).drew.set oK1 oKd) (fun r h => hsub r h)
  have KR4 : Kr (setBlock V3.drew K oKd) (fun r => O1 r ∨ (V2.heap.size ≤ r ∧ r < V3.heap.size)) A lk := by
    rcases kr with h1 | ⟨r, h1, h2, h3⟩
    · exact .inl h1
    · exact .inr ⟨r, h1, .inr ⟨h2, lt_of_block h3⟩, (set_other oKd (HRK.out r _ _ _ h3)).trans h3⟩
  have KM4 : Km (setBlock V3.drew K oKd) (fun r => O1 r ∨ (V2.heap.size ≤ r ∧ r < V3.heap.size)) K (L.filter (fun x => decide (x.i ≠ (i1, i2))) ++ [⟨(i1, i2), ⟨u, s, kk, h, m, t⟩, q⟩]) := HKP'.out _ _ (set_same oKd kl3) (fun r h => .inl h) (fun r cs h h' => set_other oKd (HRK.out r _ _ _ h')) (by show Kr _ _ A (kl _); rw [hlk]; exact KR4)
  have TM4 : Tm (setBlock V3.drew K oKd) (fun r => O1 r ∨ (V2.heap.size ≤ r ∧ r < V3.heap.size)) K T (gadd (fun x j => if j = (i1, i2) then none else g x j) lk (i1, i2) q 0) := by
    rw [gadd_zero]
    exact (T3.setK hKT oKd).keep (fun r h => .inl h) rfl (fun r h => rfl)
  have L4 : ∀ r, (O1 r ∨ (V2.heap.size ≤ r ∧ r < V3.heap.size)) → r < (setBlock V3.drew K oKd).heap.size := fun r h => by
    rw [size_setBlock]
    show r < V3.heap.size
    rcases h with h | h
    · have := hlt2 r h; omega
    · exact h.2
  have B4 : ¬ (O1 w.heap.size ∨ (V2.heap.size ≤ w.heap.size ∧ w.heap.size < V3.heap.size)) := fun h => h.elim hB1 (fun h => by omega)
  have S4 : ∀ r, (O1 r ∨ (V2.heap.size ≤ r ∧ r < V3.heap.size)) → O r ∨ w.heap.size ≤ r := fun r h => h.elim (hsub r) (fun h => .inr (by omega))
  have Z4 : w.heap.size < (setBlock V3.drew K oKd).heap.size := by rw [size_setBlock]; exact Nat.lt_of_lt_of_le zB2 q3
  clear HU7 b0 b1 b2 b3 b4 b5 b6 b7 b8 x1 K3 T3 X3 N3 OV3 kr HKP' HRK
  generalize setBlock V3.drew K oKd = V4 at *
  have hll : lk.length ≤ 2 := by rw [← hlk]; exact kl_two _
  have HGS := Lib.hid (fun p (hp : p < lk.length) => gadd_succ (fun x j => if j = (i1, i2) then none else g x j) lk (i1, i2) q (p := p) hp)
  have HFI : Hid (∀ a ∈ lk, fits a.i) := fun a ha => by rw [← hlk] at ha; have := kl_fits ha; exact ⟨by omega, by omega⟩
  have HGQ : Hid (Gq (L.filter (fun x => decide (x.i ≠ (i1, i2))) ++ [⟨(i1, i2), ⟨u, s, kk, h, m, t⟩, q⟩]) (gadd (fun x j => if j = (i1, i2) then none else g x j) lk (i1, i2) q lk.length)) := by have h1 := gq_put hGq ⟨(i1, i2), ⟨u, s, kk, h, m, t⟩, q⟩; rw [← hlk]; exact h1
  clear hGq
  go_wp2_with fail
  go_loopw [49] (fun tt wr => ∃ p : Nat, p ≤ lk.length ∧ tt = .int .i64 (p : Int) ∧ ∃ O5 : Nat → Prop, Off O w wr ∧ Xb wr X n (some K) (some T) ∧ Nb wr w.heap.size ⟨(i1, i2), ⟨u, s, kk, h, m, t⟩, q⟩ ∧ Km wr O5 K (L.filter (fun x => decide (x.i ≠ (i1, i2))) ++ [⟨(i1, i2), ⟨u, s, kk, h, m, t⟩, q⟩]) ∧ Tm wr O5 K T (gadd (fun x j => if j = (i1, i2) then none else g x j) lk (i1, i2) q p) ∧ (∀ r, O5 r → r < wr.heap.size) ∧ ¬ O5 w.heap.size ∧ (∀ r, O5 r → O r ∨ w.heap.size ≤ r) ∧ O5 X ∧ O5 K ∧ O5 T ∧ Kr wr O5 A lk ∧ w.heap.size < wr.heap.size) (fun tt _ => 3 - (intOf tt).toNat)
  case atStart => exact ⟨0, Nat.zero_le _, rfl, _, OV4, X4, N4, KM4, TM4, L4, B4, S4, .inl oX1, .inl oK1, .inl oT1, KR4, Z4⟩
  case round =>
    obtain ⟨p, hp, rfl, O5, hO, hX, hNb, hK, hT, hlt5, hB5, hs5, oX5, oK5, oT5, hR, hz⟩ := hrel
    clear OV4 X4 N4 KM4 TM4 L4 B4 S4 KR4 Z4
    by_cases hlp : p < lk.length
    · have hlpi : (p : Int) < (lk.length : Int) := by omega
      have hp0 : (0 : Int) ≤ (p : Int) := by omega
      have GN := Lib.hid (HGS.out p hlp)
      have hR' := Lib.hid hR
      rcases hR with rfl | ⟨r, rfl, hOr, hrow⟩
      · simp at hlp
      obtain ⟨c0, c1, c2⟩ := kc_at lk p lk[p] (List.getElem?_eq_getElem hlp)
      have e0 : wr.cell? ⟨r, p * 3, none⟩ = some (.bool lk[p].a) := by rw [cell_of_row wr r _ _ 60 _ hrow]; simp; exact c0
      have e1 : wr.cell? ⟨r, p * 3 + 1, none⟩ = some (.int .i64 lk[p].i) := by rw [cell_of_row wr r _ _ 60 _ hrow]; simp; exact c1
      have e2 : wr.cell? ⟨r, p * 3 + 2, none⟩ = some (.bool lk[p].c) := by rw [cell_of_row wr r _ _ 60 _ hrow]; simp; exact c2
      have HPT := hT.put_ (HFI.out lk[p] (List.getElem_mem hlp)) (i := (i1, i2)) hfit q
      generalize lk[p] = y at *
      obtain ⟨ya, yi, yc⟩ := y
      have BV : Below wr.heap.size wr (wr.alloc (.cells #[.bool ya, .int .i64 yi, .bool yc] 60)) := (Below.refl _ _).alloc (Nat.le_refl _) _
      have Y5 := kb_new wr ya yi yc
      have X5 := hX.on BV hX.lt
      have N5 := hNb.on BV hz
      have OV5 := hO.then BV
      have ZV : (wr.alloc (.cells #[.bool ya, .int .i64 yi, .bool yc] 60)).heap.size = wr.heap.size + 1 := by simp
      have K5 := hK.keep (w' := wr.alloc (.cells #[.bool ya, .int .i64 yi, .bool yc] 60)) (O' := O5) (fun _ h => h) (BV.block K (hlt5 K oK5)) (fun r cs h _ => BV.block r (hlt5 r h))
      have R5 := Lib.hid (hR'.out.keep (w' := wr.alloc (.cells #[.bool ya, .int .i64 yi, .bool yc] 60)) (O' := O5) (fun _ h => h) (fun r cs h _ => BV.block r (hlt5 r h)))
      have BO := Lib.hid (fun r (h : r < wr.heap.size) => BV.block r h)
      have HLT := Lib.hid hlt5
      have HT := Lib.hid hT
      have HS5 := Lib.hid hs5
      clear hT hK hO hX hNb c0 c1 c2 hR' hrow hs5 hlt5
      rcases HPT with ⟨HL, HPb⟩ | ⟨b, ob, hbK, hbT, hbl, hrows, HL, o', HUp, HTm⟩
      · obtain ⟨oT', o', HUT, HLb, HUb, HTm⟩ := HPb (wr.heap.size + 1)
        have HL11 : (Instr.lookup 53 (.map (some T)) (.agg #[.bool ya, .int .i64 yi, .bool yc]) false).run Tryd.prog (wr.alloc (.cells #[.bool ya, .int .i64 yi, .bool yc] 60)).drew = .ok (.map none) (wr.alloc (.cells #[.bool ya, .int .i64 yi, .bool yc] 60)).drew := HL _ (BO.out T (HLT.out T oT5))
        have HUT' := Lib.hid HUT
        have HLb' := Lib.hid HLb
        have HUb' := Lib.hid HUb
        have HTm' := Lib.hid HTm
        clear HL HPb HUT HLb HUb HTm
        go_wp2_with fail
        generalize (wr.alloc (.cells #[.bool ya, .int .i64 yi, .bool yc] 60)) = V5 at *
        obtain ⟨k0, k1, k2⟩ := id Y5
        obtain ⟨b0, b1, b2, b3, b4, b5, b6, b7, b8⟩ := id N5
        have x2 := X5.c2
        go_region
        have zT5 := HLT.out T oT5
        have ZA : (V5.alloc (.map #[] 0)).drew.drew.heap.size = wr.heap.size + 1 + 1 := by show (V5.alloc (.map #[] 0)).heap.size = _; simp; exact ZV
        have AH : (V5.alloc (.map #[] 0)).drew.drew.heap[wr.heap.size + 1]? = some (.map #[] 0) := by have h1 := heap_alloc_new V5 (.map #[] 0); rwa [ZV] at h1
        have AO : ∀ r, r < wr.heap.size + 1 → (V5.alloc (.map #[] 0)).drew.drew.heap[r]? = V5.heap[r]? := fun r h => Below.heap_alloc V5 _ r (by rw [ZV]; exact h)
        have HU12 : (Instr.mapUpdate 53 (.map (some T)) (.agg #[.bool ya, .int .i64 yi, .bool yc]) (.map (some (wr.heap.size + 1)))).run Tryd.prog (V5.alloc (.map #[] 0)).drew.drew = .ok () (setBlock (V5.alloc (.map #[] 0)).drew.drew T oT') := HUT'.out _ ((AO T (by omega)).trans (BO.out T zT5))
        have zX5 : X < wr.heap.size + 1 := by have := HLT.out X oX5; omega
        have zY5 : wr.heap.size < wr.heap.size + 1 := by omega
        have AO' := Lib.hid AO
        clear HL11 AO
        go_wp2_with fail
        go_region
        have OA : Off O5 V5 (V5.alloc (.map #[] 0)).drew.drew := ((Off.refl _ _).alloc _).drew.drew
        have T7 : (setBlock (V5.alloc (.map #[] 0)).drew.drew T oT').heap[T]? = some oT' := set_same oT' (by rw [ZA]; omega)
        have b7 : (setBlock (V5.alloc (.map #[] 0)).drew.drew T oT').heap[wr.heap.size + 1]? = some (.map #[] 0) := (set_other oT' (by omega)).trans AH
        have OO7 : Off O5 V5 (setBlock (V5.alloc (.map #[] 0)).drew.drew T oT') := OA.set oT5 oT'
        have hXT : X ≠ T := by
          obtain ⟨ft, ct, hmo, _⟩ := HT.out
          have h3 : wr.heap[X]? = some _ := (BO.out X (HLT.out X oX5)).symm.trans X5
          exact mo_row hmo h3
        have X7 : Xb (setBlock (V5.alloc (.map #[] 0)).drew.drew T oT') X n (some K) (some T) := (set_other oT' hXT).trans ((AO'.out X (by have := HLT.out X oX5; omega)).trans X5)
        have N7 := N5.off OO7 hB5
        have Y7 := Off.kb Y5 OO7 (fun h => by have := HLT.out _ h; omega)
        have S7 : (setBlock (V5.alloc (.map #[] 0)).drew.drew T oT').heap.size = wr.heap.size + 1 + 1 := by rw [size_setBlock, ZA]
        have R7 : ∀ r, r < wr.heap.size → r ≠ T → (setBlock (V5.alloc (.map #[] 0)).drew.drew T oT').heap[r]? = wr.heap[r]? := fun r h hne => (set_other oT' hne).trans ((AO'.out r (by omega)).trans (BO.out r h))
        have R7' := Lib.hid R7
        have HRT : Hid (∀ r cs t fr, wr.heap[r]? = some (.cells cs t fr) → r ≠ T) := fun r cs t fr h' => by
          obtain ⟨ft, ct, hmo, _⟩ := HT.out
          exact mo_row hmo h'
        have OV7 := OV5.trans OO7 (fun r h => HS5.out r h)
        clear k0 k1 k2 b0 b1 b2 b3 b4 b5 b6 b8 x2 HU12 AO' AH OA R7 X5 N5 Y5 zX5 zY5 OV5
        generalize setBlock (V5.alloc (.map #[] 0)).drew.drew T oT' = V7 at *
        have HL13 : (Instr.lookup 53 (.map (some T)) (.agg #[.bool ya, .int .i64 yi, .bool yc]) false).run Tryd.prog V7.drew = .ok (.map (some (wr.heap.size + 1))) V7.drew := HLb'.out _ T7
        have HU13 : (Instr.mapUpdate 61 (.map (some (wr.heap.size + 1))) (.agg #[.int .i64 i1, .int .i64 i2]) (.int .i64 q)).run Tryd.prog V7.drew = .ok () (setBlock V7.drew (wr.heap.size + 1) o') := HUb'.out _ b7
        obtain ⟨k0, k1, k2⟩ := id Y7
        obtain ⟨n0, n1, n2, n3, n4, n5, n6, n7, n8⟩ := id N7
        have x2 := X7.c2
        go_wp2_with fail
        go_region
        have T8 : (setBlock V7.drew (wr.heap.size + 1) o').heap[T]? = some oT' := (set_other o' (by omega)).trans T7
        have zK5 := HLT.out K oK5
        have zX5 := HLT.out X oX5
        have TM8 : Tm (setBlock V7.drew (wr.heap.size + 1) o') (fun r => O5 r ∨ r = wr.heap.size + 1) K T (gadd (fun x j => if j = (i1, i2) then none else g x j) lk (i1, i2) q (p + 1)) := by
          rw [← GN.out]
          refine HTm'.out _ (fun r => O5 r ∨ r = wr.heap.size + 1) T8 (set_same o' (by show wr.heap.size + 1 < V7.heap.size; omega)) (by omega) (by omega) (by omega) (fun r h => .inl h) (.inr rfl) (fun r h hne _ => ?_)
          have h1 := HLT.out r h
          exact (set_other o' (by omega)).trans (R7'.out r h1 hne)
        have R8 : ∀ r cs, O5 r → V5.heap[r]? = some (.cells cs 60 (0, 0)) → (setBlock V7.drew (wr.heap.size + 1) o').heap[r]? = V5.heap[r]? := fun r cs h h' => by
          have h1 := HLT.out r h
          have h2 := BO.out r h1
          have h3 : r ≠ T := HRT.out r _ _ _ (h2.symm.trans h')
          exact (set_other o' (by omega)).trans ((R7'.out r h1 h3).trans h2.symm)
        have KM8 := K5.keep (w' := setBlock V7.drew (wr.heap.size + 1) o') (O' := fun r => O5 r ∨ r = wr.heap.size + 1) (fun r h => .inl h) ((set_other o' (by omega)).trans ((R7'.out K zK5 hKT).trans (BO.out K zK5).symm)) R8
        have KR8 := R5.out.keep (w' := setBlock V7.drew (wr.heap.size + 1) o') (O' := fun r => O5 r ∨ r = wr.heap.size + 1) (fun r h => .inl h) R8
        have X8 : Xb (setBlock V7.drew (wr.heap.size + 1) o') X n (some K) (some T) := (set_other o' (by omega)).trans X7
        have OB8 : Off (fun r => r = wr.heap.size + 1) V7 (setBlock V7.drew (wr.heap.size + 1) o') := ((Off.refl (fun r => r = wr.heap.size + 1) V7).drew).set (b := wr.heap.size + 1) rfl o'
        have N8 := N7.off OB8 (by omega)
        have zw := hz
        have OV8 := OV7.trans OB8 (fun r h => .inr (by omega))
        have L8 : ∀ r, (O5 r ∨ r = wr.heap.size + 1) → r < (setBlock V7.drew (wr.heap.size + 1) o').heap.size := fun r h => by
          rw [size_setBlock]
          show r < V7.heap.size
          rcases h with h | h
          · have := HLT.out r h; omega
          · omega
        have B8 : ¬ (O5 w.heap.size ∨ w.heap.size = wr.heap.size + 1) := fun h => h.elim hB5 (fun h => by omega)
        have S8 : ∀ r, (O5 r ∨ r = wr.heap.size + 1) → O r ∨ w.heap.size ≤ r := fun r h => h.elim (HS5.out r) (fun h => .inr (by omega))
        have Z8 : w.heap.size < (setBlock V7.drew (wr.heap.size + 1) o').heap.size := by rw [size_setBlock]; show w.heap.size < V7.heap.size; omega
        clear HL13 HU13 k0 k1 k2 n0 n1 n2 n3 n4 n5 n6 n7 n8 x2
        generalize setBlock V7.drew (wr.heap.size + 1) o' = V8 at *
        go_wp2
        go_roundw
        case rel => exact ⟨p + 1, by omega, by go_num, _, OV8, X8, N8, KM8, TM8, L8, B8, S8, .inl oX5, .inl oK5, .inl oT5, KR8, Z8⟩
        case measure => simp [intOf]; omega
      · have zT5 := HLT.out T oT5
        have zb5 := hbl
        have HL11 : ∀ W : World, W.heap[T]? = wr.heap[T]? → (Instr.lookup 53 (.map (some T)) (.agg #[.bool ya, .int .i64 yi, .bool yc]) false).run Tryd.prog W = .ok (.map (some b)) W := HL
        have HLa : (Instr.lookup 53 (.map (some T)) (.agg #[.bool ya, .int .i64 yi, .bool yc]) false).run Tryd.prog (wr.alloc (.cells #[.bool ya, .int .i64 yi, .bool yc] 60)).drew = .ok (.map (some b)) (wr.alloc (.cells #[.bool ya, .int .i64 yi, .bool yc] 60)).drew := HL _ (BO.out T zT5)
        have HLb : (Instr.lookup 53 (.map (some T)) (.agg #[.bool ya, .int .i64 yi, .bool yc]) false).run Tryd.prog (wr.alloc (.cells #[.bool ya, .int .i64 yi, .bool yc] 60)).drew.drew = .ok (.map (some b)) (wr.alloc (.cells #[.bool ya, .int .i64 yi, .bool yc] 60)).drew.drew := HL _ (BO.out T zT5)
        have HUa : (Instr.mapUpdate 61 (.map (some b)) (.agg #[.int .i64 i1, .int .i64 i2]) (.int .i64 q)).run Tryd.prog (wr.alloc (.cells #[.bool ya, .int .i64 yi, .bool yc] 60)).drew.drew = .ok () (setBlock (wr.alloc (.cells #[.bool ya, .int .i64 yi, .bool yc] 60)).drew.drew b o') := HUp _ (BO.out b zb5)
        have HTm' := Lib.hid HTm
        have HRW := Lib.hid hrows
        clear HL HL11 HUp HTm hrows
        go_wp2_with fail
        generalize (wr.alloc (.cells #[.bool ya, .int .i64 yi, .bool yc] 60)) = V5 at *
        obtain ⟨k0, k1, k2⟩ := id Y5
        obtain ⟨n0, n1, n2, n3, n4, n5, n6, n7, n8⟩ := id N5
        have x2 := X5.c2
        go_region
        go_wp2_with fail
        go_region
        have hXb : X ≠ b := by
          have h3 : wr.heap[X]? = some _ := (BO.out X (HLT.out X oX5)).symm.trans X5
          exact (HRW.out X _ _ _ h3).1
        have T8 : (setBlock V5.drew.drew b o').heap[T]? = wr.heap[T]? := (set_other o' (fun e => hbT e.symm)).trans (BO.out T zT5)
        have zK5 := HLT.out K oK5
        have TM8 : Tm (setBlock V5.drew.drew b o') O5 K T (gadd (fun x j => if j = (i1, i2) then none else g x j) lk (i1, i2) q (p + 1)) := by
          rw [← GN.out]
          exact HTm'.out _ T8 (set_same o' (by show b < V5.heap.size; omega)) (fun r h h1 h2 _ => (set_other o' h2).trans (BO.out r (HLT.out r h)))
        have R8 : ∀ r cs, O5 r → V5.heap[r]? = some (.cells cs 60 (0, 0)) → (setBlock V5.drew.drew b o').heap[r]? = V5.heap[r]? := fun r cs h h' => set_other o' (HRW.out r _ _ _ ((BO.out r (HLT.out r h)).symm.trans h')).1
        have KM8 := K5.keep (w' := setBlock V5.drew.drew b o') (O' := O5) (fun _ h => h) (set_other o' (fun e => hbK e.symm)) R8
        have KR8 := R5.out.keep (w' := setBlock V5.drew.drew b o') (O' := O5) (fun _ h => h) R8
        have X8 : Xb (setBlock V5.drew.drew b o') X n (some K) (some T) := (set_other o' hXb).trans X5
        have OB8 : Off O5 V5 (setBlock V5.drew.drew b o') := ((Off.refl O5 V5).drew.drew).set ob o'
        have N8 := N5.off OB8 hB5
        have OV8 := OV5.trans OB8 (fun r h => HS5.out r h)
        have L8 : ∀ r, O5 r → r < (setBlock V5.drew.drew b o').heap.size := fun r h => by
          rw [size_setBlock]
          show r < V5.heap.size
          have := HLT.out r h; omega
        have Z8 : w.heap.size < (setBlock V5.drew.drew b o').heap.size := by rw [size_setBlock]; show w.heap.size < V5.heap.size; omega
        clear HLa HLb HUa k0 k1 k2 n0 n1 n2 n3 n4 n5 n6 n7 n8 x2
        generalize setBlock V5.drew.drew b o' = V8 at *
        go_wp2
        go_roundw
        case rel => exact ⟨p + 1, by omega, by go_num, O5, OV8, X8, N8, KM8, TM8, L8, hB5, HS5.out, oX5, oK5, oT5, KR8, Z8⟩
        case measure => simp [intOf]; omega
    · obtain rfl : p = lk.length := by omega
      have HK := Lib.hid hK
      have HT := Lib.hid hT
      have HLT := Lib.hid hlt5
      have HS5 := Lib.hid hs5
      have HO5 := Lib.hid hO
      clear hK hT hlt5 hs5 hO
      go_wp2
      go_end0
      exact ⟨rfl, O5, ⟨hNN ▸ hwf'.out, oX5, HLT.out, some K, some T, hX, .inr ⟨K, T, _, rfl, rfl, hKT, oK5, oT5, HK.out, HT.out, HGQ.out⟩⟩, HO5.out, HS5.out⟩
end Go.Proofs.YtmeklhlojogdnaaDoor
