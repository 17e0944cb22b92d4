/-
  A command that is one has two keys, its user's, that it changes, and its channel's, that it changes, if it does not just read; Nop, and what may not be, has none: KeysOf answers true whatever the command; it reads as it did. Conditions: none beyond the card's own (the table of what kinds need reads as its initialiser lays it).
-/
import Derived.Test.YtdpjkbhofebdiaaDoorOpen
import Derived.Deep.RegionHeld3
import Derived.Deep.DrawnRows
import Derived.Laws.StructEq
import Derived.Test.YtdpjkbhofebdiaaDoorCards
import Derived.Test.YtdpjkbhofebdiaaDoorTie
import Derived.SevenTiedAt
namespace Go.Proofs.YtdpjkbhofebdiaaDoor.keysOf
open Go.ChangeShapes Go.WideShapes Go.ChangeAt Go.RowKit Go.Joins
set_option linter.unusedVariables false

/-- '==' of two keys. -/
theorem eq33 (w : World) (a c a' c' : Bool) (i i' : Int) : (binOp .eql 33 (kv a i c) (kv a' i' c')).run Tryd.prog w = .ok (.bool ((a == a') && (i == i') && (c == c'))) w := by
  rw [run_eql_struct, show (10000 : Nat) = 9999 + 1 from rfl, run_equalIn_struct w 9999 33 _ _ (by kernel_rfl) (by kernel_rfl)]
  simp [Op.eqFields, go_sem]
  cases a <;> cases a' <;> cases c <;> cases c' <;> by_cases h2 : i = i' <;> simp [h2]
theorem guard33 (w : World) (a b : Operand) (xs ys : Array Value) : (eqGuard .eql 33 a b (.agg xs) (.agg ys)).run Tryd.prog w = .ok () w := run_eqGuard_agg w .eql 33 a b xs ys (by kernel_rfl)
attribute [local go_sem ↓ high] eq33 guard33

/-- Two keys in a row. -/
def Kr (w : World) (b : Nat) (u h : Int) (r : Bool) : Prop :=
  w.cell? ⟨b, 0, none⟩ = some (.bool true) ∧ w.cell? ⟨b, 1, none⟩ = some (.int .i64 u) ∧ w.cell? ⟨b, 2, none⟩ = some (.bool true) ∧ w.cell? ⟨b, 3, none⟩ = some (.bool false) ∧ w.cell? ⟨b, 4, none⟩ = some (.int .i64 h) ∧ w.cell? ⟨b, 5, none⟩ = some (.bool !r)
theorem Kr.on {w w' : World} {b D : Nat} {u h : Int} {r : Bool} (hc : Kr w b u h r) (hb : Below D w w') (hB : b < D) : Kr w' b u h r := by
  obtain ⟨c0, c1, c2, c3, c4, c5⟩ := hc
  exact ⟨(hb.cell (p := ⟨b, 0, none⟩) hB).trans c0, (hb.cell (p := ⟨b, 1, none⟩) hB).trans c1, (hb.cell (p := ⟨b, 2, none⟩) hB).trans c2, (hb.cell (p := ⟨b, 3, none⟩) hB).trans c3, (hb.cell (p := ⟨b, 4, none⟩) hB).trans c4, (hb.cell (p := ⟨b, 5, none⟩) hB).trans c5⟩
theorem keepK {w0 v v' : World} {B b D : Nat} {u s k h n : Int} {t : ByteArray} {r : Bool} (hB : B < D) (hB' : b < D) (hS : Cb v B u s k h n t ∧ Kr v b u h r ∧ Below D w0 v) (hb : Below D v v') : Cb v' B u s k h n t ∧ Kr v' b u h r ∧ Below D w0 v' := ⟨hS.1.on hb hB, hS.2.1.on hb hB', hS.2.2.trans hb⟩

def TwoPost (w : World) (u h : Int) (r : Bool) (e : Ending) (w' : World) : Prop := ∃ b, e = .returned (.slice (some ⟨b, 0, none⟩) 2 2) ∧ b < w'.heap.size ∧ Kr w' b u h r ∧ Below w.heap.size w w'

set_option maxHeartbeats 1000000 in
theorem of_two (r : Bool) (u s k h n : Int) (t : ByteArray) (w : World) (hN : Nd w) (hk : (k == 0) = false) (hm : mayB u s k h n t.size = true) (hr : rdB k = r) : Calls Tryd.prog 14 #[cv u s k h n t] w (TwoPost w u h r) := by
  have HM : ∀ W, Nd W → Hid (Calls Tryd.prog 15 #[cv u s k h n t] W (BoolPost W true)) := fun W h' => by have := may_any u s k h n t W h'; rw [hm] at this; exact this
  have HR : ∀ W, Hid (Calls Tryd.prog 16 #[cv u s k h n t] W (BoolPost W r)) := fun W => by have := reads_any u s k h n t W; rw [hr] at this; exact this
  clear hm hr
  go_enter Tryd.func14, Tryd.ntmps14
  go_wp2_with fail
  have BW : Below w.heap.size w (w.alloc (.cells #[.int .i64 u, .int .i64 s, .int .i64 k, .int .i64 h, .int .i64 n, .string t] 23)) := (Below.refl _ _).alloc (Nat.le_refl _) _
  have Z0 : (w.alloc (.cells #[.int .i64 u, .int .i64 s, .int .i64 k, .int .i64 h, .int .i64 n, .string t] 23)).heap.size = w.heap.size + 1 := by simp
  have C0 := cb_new w u s k h n t
  have N0 := hN.on BW
  generalize (w.alloc (.cells #[.int .i64 u, .int .i64 s, .int .i64 k, .int .i64 h, .int .i64 n, .string t] 23)) = W0 at *
  refine (HM _ N0).out.mono ?_
  rintro e w1 ⟨rfl, B1⟩
  have q1 := B1.size
  have C1 := C0.on B1 (by omega)
  have hz : w.heap.size < w1.heap.size := by omega
  have S0 : Cb w1 w.heap.size u s k h n t ∧ Below w1.heap.size w1 w1 := ⟨C1, Below.refl _ _⟩
  have KD : Hid (∀ v, (Cb v w.heap.size u s k h n t ∧ Below w1.heap.size w1 v) → (Cb v.drew w.heap.size u s k h n t ∧ Below w1.heap.size w1 v.drew)) := fun v hS => keep1 hz hS ((Below.refl _ _).drew)
  have KS : Hid (∀ v v', (Cb v w.heap.size u s k h n t ∧ Below w1.heap.size w1 v) → Below v.heap.size v v' → (Cb v' w.heap.size u s k h n t ∧ Below w1.heap.size w1 v')) := fun v v' hS hb => keep1 hz hS (hb.mono hS.2.size)
  have KA : Hid (∀ v o, (Cb v w.heap.size u s k h n t ∧ Below w1.heap.size w1 v) → (Cb (v.alloc o) w.heap.size u s k h n t ∧ Below w1.heap.size w1 (v.alloc o))) := fun v o hS => keep1 hz hS (((Below.refl _ _).alloc (Nat.le_refl _) _).mono hS.2.size)
  have BE := BW.trans (B1.mono BW.size)
  obtain ⟨p0, p1, p2, p3, p4, p5⟩ := C1
  have S0' := Lib.hid S0
  clear C0 N0 B1 BW hN
  go_wp2_with fail
  go_region_held3 (fun v => (v.cell? ⟨w.heap.size, 0, none⟩ = some (.int .i64 u) ∧ v.cell? ⟨w.heap.size, 1, none⟩ = some (.int .i64 s) ∧ v.cell? ⟨w.heap.size, 2, none⟩ = some (.int .i64 k) ∧ v.cell? ⟨w.heap.size, 3, none⟩ = some (.int .i64 h) ∧ v.cell? ⟨w.heap.size, 4, none⟩ = some (.int .i64 n) ∧ v.cell? ⟨w.heap.size, 5, none⟩ = some (.string t)) ∧ Below w1.heap.size w1 v) (first | (exact S0) | (exact KD.out _ S0) | (refine KA.out _ _ ?_; assumption) | (refine KD.out _ ?_; assumption) | (refine KS.out _ _ ?_ ?_ <;> assumption) | (refine KS.out _ _ (KD.out _ S0) ?_; assumption))
    (first | (go_at_call 16; (with_reducible refine (HR _).out.mono ?_); rintro e w' ⟨rfl, hb'⟩))
  rename_i hSx
  have BX := BE.trans (hSx.2.mono (by omega))
  go_wp2
  go_ret
  refine ⟨_, rfl, by simp, ⟨?_, ?_, ?_, ?_, ?_, ?_⟩, BX⟩ <;> simp [go_sem]

theorem none1 (u s k h n : Int) (t : ByteArray) (w : World) (hN : Nd w) (hm : mayB u s k h n t.size = false) (HO : ∀ W, Nd W → Hid (Calls Tryd.prog 14 #[cv u s k h n t] W (KsPost W []))) : Calls Tryd.prog 4 #[cv u s k h n t] w (UpPost w) := by
  have HA : ∀ W, Nd W → Hid (Calls Tryd.prog 15 #[cv u s k h n t] W (BoolPost W false)) := fun W hw => by have := may_any u s k h n t W hw; rw [hm] at this; exact this
  clear hm
  go_enter Tryd.func4, Tryd.ntmps4
  go_wp2_with fail
  have BW : Below w.heap.size w (w.alloc (.cells #[.int .i64 u, .int .i64 s, .int .i64 k, .int .i64 h, .int .i64 n, .string t] 23)) := (Below.refl _ _).alloc (Nat.le_refl _) _
  have Z0 : (w.alloc (.cells #[.int .i64 u, .int .i64 s, .int .i64 k, .int .i64 h, .int .i64 n, .string t] 23)).heap.size = w.heap.size + 1 := by simp
  have C0 := cb_new w u s k h n t
  have N0 := hN.on BW
  generalize (w.alloc (.cells #[.int .i64 u, .int .i64 s, .int .i64 k, .int .i64 h, .int .i64 n, .string t] 23)) = W0 at *
  refine (awake_any W0 N0).mono ?_
  rintro e w1 ⟨rfl, B1⟩
  have q1 := B1.size
  have N1 := N0.on B1
  obtain ⟨p0, p1, p2, p3, p4, p5⟩ := C0.on B1 (by omega)
  go_wp2_with fail
  clear p0 p1 p2 p3 p4 p5
  refine (HO _ N1).out.mono ?_
  rintro e w2 ⟨A, c, rfl, _, B2⟩
  have q2 := B2.size
  have N2 := N1.on B2
  have B02 := B1.trans (B2.mono q1)
  have CA := C0.on B02 (by omega)
  obtain ⟨p0, p1, p2, p3, p4, p5⟩ := id CA
  go_wp2_with fail
  refine (HA _ N2).out.mono ?_
  rintro e w3 ⟨rfl, B3⟩
  have q3 := B3.size
  have N3 := N2.on B3
  have B03 := B02.trans (B3.mono (by omega))
  have CB := C0.on B03 (by omega)
  clear p0 p1 p2 p3 p4 p5
  obtain ⟨p0, p1, p2, p3, p4, p5⟩ := id CB
  go_wp2
  go_ret
  exact ⟨rfl, BW.trans (B03.mono BW.size)⟩

theorem none2 (u s h n : Int) (t : ByteArray) (w : World) (hN : Nd w) (hm : mayB u s 0 h n t.size = true) (HO : ∀ W, Nd W → Hid (Calls Tryd.prog 14 #[cv u s 0 h n t] W (KsPost W []))) : Calls Tryd.prog 4 #[cv u s 0 h n t] w (UpPost w) := by
  have HA : ∀ W, Nd W → Hid (Calls Tryd.prog 15 #[cv u s 0 h n t] W (BoolPost W true)) := fun W hw => by have := may_any u s 0 h n t W hw; rw [hm] at this; exact this
  clear hm
  go_enter Tryd.func4, Tryd.ntmps4
  go_wp2_with fail
  have BW : Below w.heap.size w (w.alloc (.cells #[.int .i64 u, .int .i64 s, .int .i64 0, .int .i64 h, .int .i64 n, .string t] 23)) := (Below.refl _ _).alloc (Nat.le_refl _) _
  have Z0 : (w.alloc (.cells #[.int .i64 u, .int .i64 s, .int .i64 0, .int .i64 h, .int .i64 n, .string t] 23)).heap.size = w.heap.size + 1 := by simp
  have C0 := cb_new w u s 0 h n t
  have N0 := hN.on BW
  generalize (w.alloc (.cells #[.int .i64 u, .int .i64 s, .int .i64 0, .int .i64 h, .int .i64 n, .string t] 23)) = W0 at *
  refine (awake_any W0 N0).mono ?_
  rintro e w1 ⟨rfl, B1⟩
  have q1 := B1.size
  have N1 := N0.on B1
  obtain ⟨p0, p1, p2, p3, p4, p5⟩ := C0.on B1 (by omega)
  go_wp2_with fail
  clear p0 p1 p2 p3 p4 p5
  refine (HO _ N1).out.mono ?_
  rintro e w2 ⟨A, c, rfl, _, B2⟩
  have q2 := B2.size
  have N2 := N1.on B2
  have B02 := B1.trans (B2.mono q1)
  have CA := C0.on B02 (by omega)
  obtain ⟨p0, p1, p2, p3, p4, p5⟩ := id CA
  go_wp2_with fail
  refine (HA _ N2).out.mono ?_
  rintro e w3 ⟨rfl, B3⟩
  have q3 := B3.size
  have N3 := N2.on B3
  have B03 := B02.trans (B3.mono (by omega))
  have CB := C0.on B03 (by omega)
  clear p0 p1 p2 p3 p4 p5
  obtain ⟨p0, p1, p2, p3, p4, p5⟩ := id CB
  go_wp2
  go_ret
  exact ⟨rfl, BW.trans (B03.mono BW.size)⟩

set_option maxHeartbeats 1000000 in
theorem two (r : Bool) (u s k h n : Int) (t : ByteArray) (w : World) (hN : Nd w) (hk : (k == 0) = false) (hm : mayB u s k h n t.size = true) (HO : ∀ W, Nd W → Hid (Calls Tryd.prog 14 #[cv u s k h n t] W (TwoPost W u h r))) (HR : ∀ W, Hid (Calls Tryd.prog 16 #[cv u s k h n t] W (BoolPost W r))) : Calls Tryd.prog 4 #[cv u s k h n t] w (UpPost w) := by
  have HA : ∀ W, Nd W → Hid (Calls Tryd.prog 15 #[cv u s k h n t] W (BoolPost W true)) := fun W hw => by have := may_any u s k h n t W hw; rw [hm] at this; exact this
  clear hm
  go_enter Tryd.func4, Tryd.ntmps4
  go_wp2_with fail
  have BW : Below w.heap.size w (w.alloc (.cells #[.int .i64 u, .int .i64 s, .int .i64 k, .int .i64 h, .int .i64 n, .string t] 23)) := (Below.refl _ _).alloc (Nat.le_refl _) _
  have Z0 : (w.alloc (.cells #[.int .i64 u, .int .i64 s, .int .i64 k, .int .i64 h, .int .i64 n, .string t] 23)).heap.size = w.heap.size + 1 := by simp
  have C0 := cb_new w u s k h n t
  have N0 := hN.on BW
  generalize (w.alloc (.cells #[.int .i64 u, .int .i64 s, .int .i64 k, .int .i64 h, .int .i64 n, .string t] 23)) = W0 at *
  refine (awake_any W0 N0).mono ?_
  rintro e w1 ⟨rfl, B1⟩
  have q1 := B1.size
  have N1 := N0.on B1
  obtain ⟨p0, p1, p2, p3, p4, p5⟩ := C0.on B1 (by omega)
  go_wp2_with fail
  clear p0 p1 p2 p3 p4 p5
  refine (HO _ N1).out.mono ?_
  rintro e w2 ⟨b, rfl, hb, K2, B2⟩
  have q2 := B2.size
  have N2 := N1.on B2
  have B02 := B1.trans (B2.mono q1)
  have CA := C0.on B02 (by omega)
  obtain ⟨p0, p1, p2, p3, p4, p5⟩ := id CA
  go_wp2_with fail
  refine (HA _ N2).out.mono ?_
  rintro e w3 ⟨rfl, B3⟩
  have q3 := B3.size
  have N3 := N2.on B3
  have B03 := B02.trans (B3.mono (by omega))
  have CB := C0.on B03 (by omega)
  clear p0 p1 p2 p3 p4 p5
  obtain ⟨p0, p1, p2, p3, p4, p5⟩ := id CB
  have KA := K2.on B3 hb
  have hz : w.heap.size < w3.heap.size := by omega
  have hz' : b < w3.heap.size := by omega
  have S0 : Cb w3 w.heap.size u s k h n t ∧ Kr w3 b u h r ∧ Below w3.heap.size w3 w3 := ⟨CB, KA, Below.refl _ _⟩
  have KD : Hid (∀ v, (Cb v w.heap.size u s k h n t ∧ Kr v b u h r ∧ Below w3.heap.size w3 v) → (Cb v.drew w.heap.size u s k h n t ∧ Kr v.drew b u h r ∧ Below w3.heap.size w3 v.drew)) := fun v hS => keepK hz hz' hS ((Below.refl _ _).drew)
  have KS : Hid (∀ v v', Below v.heap.size v v' → (Cb v w.heap.size u s k h n t ∧ Kr v b u h r ∧ Below w3.heap.size w3 v) → (Cb v' w.heap.size u s k h n t ∧ Kr v' b u h r ∧ Below w3.heap.size w3 v')) := fun v v' hb hS => keepK hz hz' hS (hb.mono hS.2.2.size)
  have BE := BW.trans (B03.mono BW.size)
  obtain ⟨r0, r1, r2, r3, r4, r5⟩ := id KA
  clear HO HA B1 B2 B3 B02 B03 C0 CA CB K2 KA N0 N1 N2 N3 hN BW
  go_wp2_with fail
  go_region_held3 (fun v => (v.cell? ⟨w.heap.size, 0, none⟩ = some (.int .i64 u) ∧ v.cell? ⟨w.heap.size, 1, none⟩ = some (.int .i64 s) ∧ v.cell? ⟨w.heap.size, 2, none⟩ = some (.int .i64 k) ∧ v.cell? ⟨w.heap.size, 3, none⟩ = some (.int .i64 h) ∧ v.cell? ⟨w.heap.size, 4, none⟩ = some (.int .i64 n) ∧ v.cell? ⟨w.heap.size, 5, none⟩ = some (.string t)) ∧ (v.cell? ⟨b, 0, none⟩ = some (.bool true) ∧ v.cell? ⟨b, 1, none⟩ = some (.int .i64 u) ∧ v.cell? ⟨b, 2, none⟩ = some (.bool true) ∧ v.cell? ⟨b, 3, none⟩ = some (.bool false) ∧ v.cell? ⟨b, 4, none⟩ = some (.int .i64 h) ∧ v.cell? ⟨b, 5, none⟩ = some (.bool !r)) ∧ Below w3.heap.size w3 v)
    (first | (exact S0) | (exact KD.out _ S0) | (refine KS.out _ _ hb1 ?_; exact KD.out _ S0) | (refine KD.out _ ?_; assumption))
    (first | (go_at_call 16; (with_reducible refine (HR _).out.mono ?_); rintro e wa ⟨rfl, hb1⟩))
  rename_i hSx
  have BX := BE.trans (hSx.2.2.mono (by omega))
  go_wp2
  go_ret
  exact ⟨rfl, BX⟩

theorem walk (x0 : Cd) (w : World) (hN : Nd w) : Calls Tryd.prog 4 #[cv x0.u x0.s x0.k x0.h x0.n x0.t] w (UpPost w) := by
  rcases hm : x0.may with _ | _
  · exact none1 _ _ _ _ _ _ w hN hm (fun W h => by have := of_any x0 W h; rw [kl_no (on_may hm)] at this; exact this)
  · by_cases hk : x0.k = 0
    · have HO : ∀ W, Nd W → Hid (Calls Tryd.prog 14 #[cv x0.u x0.s x0.k x0.h x0.n x0.t] W (KsPost W [])) := fun W h => by have := of_any x0 W h; rw [kl_no (on_k hk)] at this; exact this
      unfold Cd.may at hm
      rw [hk] at hm HO ⊢
      exact none2 _ _ _ _ _ w hN hm HO
    · have kx : (x0.k == 0) = false := by rw [beq_eq_false_iff_ne]; exact hk
      exact two (rdB x0.k) _ _ _ _ _ _ w hN kx hm (fun W h => of_two _ _ _ _ _ _ _ W h kx hm rfl) (fun W => reads_any _ _ _ _ _ _ W)

set_option maxRecDepth 100000 in
theorem lifted (os : Os) (started : os.Started) (H : Type) (enc : TypeId × Value → H) :
    ReturnsInHanded {} Tryd.checked os 4 .any (fun w args => (Rows.keysOfSpec.pre enc Tryd.prog Tryd.f4 [] false w args ∧ laidMetH Tryd.prog laid4 w) ∧ sizedMet enc Tryd.prog Tryd.f4 (OpenSpec.ofChange Rows.keysOfSpec) false w args)
      (Rows.keysOfSpec.post enc Tryd.prog Tryd.f4 false true false false) := by
  refine returnsInHanded_of_change_and (C := Tryd.checked) (X := fun w _ => laidMetH Tryd.prog laid4 w) (fun _ _ _ hh h => h.of_heap hh) own started (by kernel_rfl) Tryd.func4
    (ChangeSpec.witness_shaped (enc := enc) (C := Tryd.checked) (os := os) (X := fun w _ => laidMetH Tryd.prog laid4 w) false (World.doorLaid Tryd.prog 18 os) #[.agg #[.int .i64 0, .int .i64 0, .int .i64 0, .int .i64 0, .int .i64 0, .string ⟨#[]⟩]] 8 rfl (World.shaped_of_RefB (by kernel_rfl) (by kernel_rfl)) (by kernel_rfl) (by kernel_rfl) (by kernel_rfl) (door_met os _)) ?_
  intro W base args ds gs before hval0 hW _ _ hL _
  have hN := nd_of_laid hL
  have hval : ∀ (j : Nat) t v, Tryd.f4.params[j]? = some t → args[j]? = some v → Value.okWide Tryd.prog W .any base t v := hval0
  have hW' := hW
  obtain ⟨p, q, hA0, hV, rfl, hfz, hnd⟩ := hW
  have hA : DataW.TrodAll enc Tryd.prog W 0 (fun _ => true) true Tryd.f4.params.toList args.toList ds p := hA0
  rw [Tryd.params4] at hA hval
  obtain ⟨v0, vs0, d0, ds0, p0, q0, hargs, rfl, rfl, h0, r0⟩ := trodAll_cons hA
  obtain ⟨rfl, rfl, rfl⟩ := trodAll_nil r0
  obtain rfl : args = #[v0] := by cases args; simp_all
  obtain ⟨rfl, rfl⟩ := trodVars_none hV
  have k0' := h0
  have lt0 : ∀ x ∈ p0, x.block < W.heap.size := by obtain ⟨m, hm⟩ := k0'; exact DataW.trod_lt m _ _ _ hm
  obtain ⟨x0, rfl⟩ := open_cmd (hval 0 23 v0 rfl rfl) h0
  clear hA0 hval0
  refine (walk x0 W hN ).mono fun e W' ⟨he, bel⟩ => ?_
  subst he
  exact ⟨_, rfl, _, _, _, [], _, [], hW', trodAll_mk1 (shut_bool Tryd.underlying4 _), (trodAll_cons_mk (Below.trod laidOut (by kernel_rfl) (of_decide_eq_true (by kernel_rfl)) k0' bel lt0) trodAll_mk0), rfl, bel.frame _, fun h => by cases h⟩

theorem over : Rows.KeysOfSaid :=
  OpenClaim.holds_of_wide 4 Tryd.f4 rfl rfl rfl rfl rfl rfl rfl ⟨rfl, rfl, rfl, rfl, rfl⟩ rfl rfl rfl rfl rfl (by kernel_rfl) Tryd.func4 (by kernel_rfl)
    (of_decide_eq_true (by kernel_rfl)) (by unfold Func.isWrapper; first | (rw [if_pos (by decide +kernel)]; kernel_rfl) | (rw [if_neg (by decide +kernel)]; exact ⟨rfl, rfl⟩))
    (fun os started H enc _ => lifted os started H enc)

theorem proved : Rows.KeysOfCardSaid :=
  Claim7.holds_tied_plain_at .later [] [.data] true (true, "bf996c1659db8f8bd19cd74e829fb44e501c00b08f30b8180ae3fe74fe87094c") false
    over (fun _ h => by cases h) (by kernel_rfl) (fun _ h => by cases h) keysOf_row_tie rfl ⟨rfl, rfl⟩ (by kernel_rfl) rfl
    (fun f fn hf hfn => by
      obtain rfl : f = 4 := Option.some.inj ((show Tryd.prog.funcNamed "colloquy/colloquylaw05.KeysOf" = some 4 by kernel_rfl).symm.trans hf) |>.symm
      obtain rfl : fn = Tryd.f4 := (Option.some.inj (Tryd.func4.symm.trans hfn)).symm
      exact ⟨by kernel_rfl, fun j t ht => by
        rw [Tryd.params4] at ht
        have hm : t ∈ [23] := by simpa using Array.mem_of_getElem? ht
        have hall : ([23].all fun u => !Tryd.prog.wantsStandIn u) = true := by kernel_rfl
        exact (show Tryd.prog.wantsStandIn t = false by simpa using List.all_eq_true.1 hall t hm)⟩)
    (by kernel_rfl)
#print axioms proved
end Go.Proofs.YtdpjkbhofebdiaaDoor.keysOf
