/-
  The walk of keys.Any with its closure, and of slices.IndexFunc and ContainsFunc over commands: it answers what 'anyI' says. Conditions: that the table of what kinds need reads as its initialiser lays it; at most a million commands.
-/
import Derived.Test.YtdpjkbhofebdiaaDoorItf
namespace Go.Proofs.YtdpjkbhofebdiaaDoor
open Go.RowKit
set_option linter.unusedVariables false

/-- Does a command interfere with one of some? -/
def anyI (x : Cd) (l : List Cd) : Bool := l.any (itf x)

/-- What the closure's region keeps: the slice in its box, the command in its box, what was there. -/
theorem keep3 {w0 v v' : World} {B P D : Nat} {x : Value} {u s k h n : Int} {t : ByteArray} (hP : P < D) (hB : B < D) (hS : v.cell? ⟨P, 0, none⟩ = some x ∧ Cb v B u s k h n t ∧ Below D w0 v) (hb : Below D v v') : v'.cell? ⟨P, 0, none⟩ = some x ∧ Cb v' B u s k h n t ∧ Below D w0 v' := ⟨(hb.cell (p := ⟨P, 0, none⟩) hP).trans hS.1, hS.2.1.on hb hB, hS.2.2.trans hb⟩

set_option maxHeartbeats 1000000 in
theorem in3_any (P : Nat) (A : Option Addr) (x y : Cd) (w : World) (hN : Nd w) (hk : Kx w P A (kl x)) : Calls Tryd.prog 22 #[cv y.u y.s y.k y.h y.n y.t, .pointer (some ⟨P, 0, none⟩)] w (BoolPost w (itf x y)) := by
  have HO2 : ∀ W, Nd W → Hid (Calls Tryd.prog 14 #[cv y.u y.s y.k y.h y.n y.t] W (KsPost W (kl y))) := fun W h => of_any y W h
  have HX : ∀ W A1 c1 A2 c2, Ks W W.heap.size A1 (kl x) → Ks W W.heap.size A2 (kl y) → Hid (Calls Tryd.prog 18 #[.slice A1 (kl x).length c1, .slice A2 (kl y).length c2] W (BoolPost W (itf x y))) := fun W A1 c1 A2 c2 h1 h2 => some_any A1 A2 c1 c2 _ _ W (kl_len x) (kl_len y) h1 h2
  generalize itf x y = r at *
  generalize kl x = lx at *
  generalize kl y = ly at *
  obtain ⟨u, s, k, h, n, t⟩ := y
  clear x
  go_enter Tryd.func22, Tryd.ntmps22
  go_wp2_with fail
  have BW : Below w.heap.size w (w.alloc (.cells #[.int .i64 u, .int .i64 s, .int .i64 k, .int .i64 h, .int .i64 n, .string t] 23)) := (Below.refl _ _).alloc (Nat.le_refl _) _
  have Z0 : (w.alloc (.cells #[.int .i64 u, .int .i64 s, .int .i64 k, .int .i64 h, .int .i64 n, .string t] 23)).heap.size = w.heap.size + 1 := by simp
  have C0 := cb_new w u s k h n t
  have N0 := hN.on BW
  have K0 := hk.on BW
  obtain ⟨c0, hk1, _⟩ := hk
  have hP := World.block_lt_of_cell? w _ hk1
  have hP0 : P < w.heap.size := hP
  clear hk1 hP
  generalize (w.alloc (.cells #[.int .i64 u, .int .i64 s, .int .i64 k, .int .i64 h, .int .i64 n, .string t] 23)) = W0 at *
  obtain ⟨c1, x0, ks⟩ := K0
  have hz : w.heap.size < W0.heap.size := by omega
  have hz' : P < W0.heap.size := by omega
  have S0 : W0.cell? ⟨P, 0, none⟩ = some (.slice A lx.length c1) ∧ Cb W0 w.heap.size u s k h n t ∧ Below W0.heap.size W0 W0 := ⟨x0, C0, Below.refl _ _⟩
  have KD : Hid (∀ v, (v.cell? ⟨P, 0, none⟩ = some (.slice A lx.length c1) ∧ Cb v w.heap.size u s k h n t ∧ Below W0.heap.size W0 v) → (v.drew.cell? ⟨P, 0, none⟩ = some (.slice A lx.length c1) ∧ Cb v.drew w.heap.size u s k h n t ∧ Below W0.heap.size W0 v.drew)) := fun v hS => keep3 hz' hz hS ((Below.refl _ _).drew)
  have KS : Hid (∀ v v', Below v.heap.size v v' → (v.cell? ⟨P, 0, none⟩ = some (.slice A lx.length c1) ∧ Cb v w.heap.size u s k h n t ∧ Below W0.heap.size W0 v) → (v'.cell? ⟨P, 0, none⟩ = some (.slice A lx.length c1) ∧ Cb v' w.heap.size u s k h n t ∧ Below W0.heap.size W0 v')) := fun v v' hb hS => keep3 hz' hz hS (hb.mono hS.2.2.size)
  have HP2 : ∀ W, (W.cell? ⟨P, 0, none⟩ = some (.slice A lx.length c1) ∧ Cb W w.heap.size u s k h n t ∧ Below W0.heap.size W0 W) → Hid (Calls Tryd.prog 14 #[cv u s k h n t] W (KsPost W ly)) := fun W hS => HO2 W (N0.on hS.2.2)
  have HX2 : ∀ W A2 c2, (W.cell? ⟨P, 0, none⟩ = some (.slice A lx.length c1) ∧ Cb W w.heap.size u s k h n t ∧ Below W0.heap.size W0 W) → Ks W W.heap.size A2 ly → Hid (Calls Tryd.prog 18 #[.slice A lx.length c1, .slice A2 ly.length c2] W (BoolPost W r)) := fun W A2 c2 hS h2 => HX W A c1 A2 c2 ((ks.below hS.2.2 (Nat.le_refl _)).mono hS.2.2.size) h2
  clear HO2 HX N0 hN ks
  obtain ⟨p0, p1, p2, p3, p4, p5⟩ := C0
  go_region_held3 (fun v => v.cell? ⟨P, 0, none⟩ = some (.slice A lx.length c1) ∧ (v.cell? ⟨w.heap.size, 0, none⟩ = some (.int .i64 u) ∧ v.cell? ⟨w.heap.size, 1, none⟩ = some (.int .i64 s) ∧ v.cell? ⟨w.heap.size, 2, none⟩ = some (.int .i64 k) ∧ v.cell? ⟨w.heap.size, 3, none⟩ = some (.int .i64 h) ∧ v.cell? ⟨w.heap.size, 4, none⟩ = some (.int .i64 n) ∧ v.cell? ⟨w.heap.size, 5, none⟩ = some (.string t)) ∧ Below W0.heap.size W0 v)
    (first | (exact S0) | (exact KD.out _ S0) | (refine KD.out _ ?_; assumption) | (refine KS.out _ _ hb3 ?_; assumption) | (refine KS.out _ _ hb2 ?_; exact KD.out _ S0))
    (first | (go_at_call 14; (with_reducible refine (HP2 _ ?_).out.mono ?_); (focus (first | assumption | exact KD.out _ S0)); rintro e wb ⟨A2, c2, rfl, ks2, hb2⟩) | (go_at_call 18; (with_reducible refine (HX2 _ _ _ ?_ ks2).out.mono ?_); (focus (first | assumption | exact KS.out _ _ hb2 (KD.out _ S0))); rintro e wc ⟨rfl, hb3⟩))
  rename_i hSx
  have BX := BW.trans (hSx.2.2.mono (by omega))
  go_wp2
  go_ret
  exact ⟨rfl, BX⟩

set_option maxHeartbeats 1000000 in
theorem idxc22 (P : Nat) (f : Cd → Bool) (S : World → Prop) (hS : ∀ W W', S W → Below W.heap.size W W' → S W')
    (HF : ∀ x W, S W → Hid (Calls Tryd.prog 22 #[cv x.u x.s x.k x.h x.n x.t, .pointer (some ⟨P, 0, none⟩)] W (BoolPost W (f x)))) (A : Option Addr) (c : Nat) (l : List Cd) (w : World) (hs : Cs w w.heap.size A l) (hw : S w) (hl : l.length ≤ 1000000) :
    Calls Tryd.prog 31 #[.slice A l.length c, .func (.func 22) #[] #[.pointer (some ⟨P, 0, none⟩)]] w (IdxPost w (l.any f)) := by
  have HS := Lib.hid hs
  clear hs
  go_enter Tryd.func31, Tryd.ntmps31
  go_wp2
  go_loopw [8] (fun t wr => ∃ k : Nat, k ≤ l.length ∧ t = .int .i64 (k : Int) ∧ Below w.heap.size w wr ∧ (l.take k).any f = false) (fun t _ => 1000001 - (intOf t).toNat)
  case atStart => exact ⟨0, Nat.zero_le _, rfl, Below.refl _ _, rfl⟩
  case round =>
    obtain ⟨k, hk, rfl, hbel, hno⟩ := hrel
    have HN := Lib.hid hno
    clear hno
    by_cases hlt : k < l.length
    · have hlti : (k : Int) < (l.length : Int) := by omega
      rcases (HS.out.below hbel (Nat.le_refl _)) with rfl | ⟨b, off, rfl, hb, hc⟩
      · simp at hlt
      obtain ⟨q0, q1, q2, q3, q4, q5⟩ := hc k l[k] (List.getElem?_eq_getElem hlt)
      have hsz := hbel.size
      have hb' : b < wr.heap.size := by omega
      have HC := HF l[k] wr (hS _ _ hw hbel)
      have HT : Hid ((l.take (k + 1)).any f = f l[k]) := by
        show _ = _
        rw [List.take_succ_eq_append_getElem hlt, List.any_append, HN.out]; simp
      have HL : Hid (f l[k] = true → l.any f = true) := fun h => List.any_eq_true.2 ⟨l[k], List.getElem_mem hlt, h⟩
      generalize l[k] = x at *
      obtain ⟨xu, xs, xk, xh, xn, xt⟩ := x
      generalize f ⟨xu, xs, xk, xh, xn, xt⟩ = r at *
      clear hc
      have h0 : (0 : Int) ≤ (k : Int) := by omega
      cases r
      · go_wp2_with fail
        refine HC.out.mono ?_
        rintro e w1 ⟨rfl, hb1⟩
        go_wp2
        go_roundw
        case rel => exact ⟨k + 1, by omega, by go_num, hbel.trans (hb1.mono hsz), HT.out⟩
        case measure => simp [intOf]; omega
      · go_wp2_with fail
        refine HC.out.mono ?_
        rintro e w1 ⟨rfl, hb1⟩
        go_wp2
        go_ret
        exact ⟨(k : Int), rfl, by rw [HL.out trivial]; exact decide_eq_true h0, hbel.trans (hb1.mono hsz)⟩
    · obtain rfl : k = l.length := by omega
      have hno := HN.out
      rw [List.take_length] at hno
      have HN' := Lib.hid hno
      clear hno HN HF
      go_wp2
      go_ret
      exact ⟨-1, rfl, by rw [HN'.out]; rfl, hbel⟩

theorem conc22 (P : Nat) (f : Cd → Bool) (S : World → Prop) (hS : ∀ W W', S W → Below W.heap.size W W' → S W')
    (HF : ∀ x W, S W → Hid (Calls Tryd.prog 22 #[cv x.u x.s x.k x.h x.n x.t, .pointer (some ⟨P, 0, none⟩)] W (BoolPost W (f x)))) (A : Option Addr) (c : Nat) (l : List Cd) (w : World) (hs : Cs w w.heap.size A l) (hw : S w) (hl : l.length ≤ 1000000) :
    Calls Tryd.prog 21 #[.slice A l.length c, .func (.func 22) #[] #[.pointer (some ⟨P, 0, none⟩)]] w (BoolPost w (l.any f)) := by
  have H : Hid (Calls Tryd.prog 31 #[.slice A l.length c, .func (.func 22) #[] #[.pointer (some ⟨P, 0, none⟩)]] w (IdxPost w (l.any f))) := idxc22 P f S hS HF A c l w hs hw hl
  generalize l.any f = b at *
  clear HF hs
  go_enter Tryd.func21, Tryd.ntmps21
  go_wp2_with fail
  refine H.out.mono ?_
  rintro e w1 ⟨r, rfl, hr, hb1⟩
  go_wp2
  go_ret
  exact ⟨rfl, hb1⟩

theorem any_any (x : Cd) (A : Option Addr) (c : Nat) (l : List Cd) (w : World) (hN : Nd w) (hl : l.length ≤ 1000000) (hs : Cs w w.heap.size A l) : Calls Tryd.prog 12 #[cv x.u x.s x.k x.h x.n x.t, .slice A l.length c] w (BoolPost w (anyI x l)) := by
  have HO : ∀ W, Nd W → Hid (Calls Tryd.prog 14 #[cv x.u x.s x.k x.h x.n x.t] W (KsPost W (kl x))) := fun W h => of_any x W h
  have HC : ∀ W P A1, Nd W → Kx W P A1 (kl x) → Cs W W.heap.size A l → Hid (Calls Tryd.prog 21 #[.slice A l.length c, .func (.func 22) #[] #[.pointer (some ⟨P, 0, none⟩)]] W (BoolPost W (anyI x l))) := fun W P A1 h1 h2 h3 =>
    conc22 P (itf x) (fun V => Nd V ∧ Kx V P A1 (kl x)) (fun V V' h hb => ⟨h.1.on hb, h.2.on hb⟩) (fun y V h => in3_any P A1 x y V h.1 h.2) A c l W h3 ⟨h1, h2⟩ hl
  generalize anyI x l = r at *
  generalize kl x = lx at *
  obtain ⟨u, s, k, h, n, t⟩ := x
  have hmf : ∀ (fn : Fn) (first cap : Array Value) (w : World), (Instr.makeFunc fn first cap).run Tryd.prog w = .ok (.func fn first cap) w := fun _ _ _ _ => rfl
  have BW : Below w.heap.size w (w.alloc (.cells #[.int .i64 u, .int .i64 s, .int .i64 k, .int .i64 h, .int .i64 n, .string t] 23)) := (Below.refl _ _).alloc (Nat.le_refl _) _
  have N0 := hN.on BW
  have S0 := (hs.below BW (Nat.le_refl _)).mono BW.size
  go_enter Tryd.func12, Tryd.ntmps12
  go_wp2_with fail
  refine (HO _ N0).out.mono ?_
  rintro e w1 ⟨A1, c1, rfl, ks1, B1⟩
  have N1 := N0.on B1
  have S1 := (S0.below B1 (Nat.le_refl _)).mono B1.size
  have B2 : Below w1.heap.size w1 (w1.alloc (.cells #[.slice A1 lx.length c1] 29)) := (Below.refl _ _).alloc (Nat.le_refl _) _
  have N2 := N1.on B2
  have S2 := (S1.below B2 (Nat.le_refl _)).mono B2.size
  have K2 : Kx (w1.alloc (.cells #[.slice A1 lx.length c1] 29)) w1.heap.size A1 lx := ⟨c1, by simp [go_sem], (ks1.below B2 (Nat.le_refl _)).mono B2.size⟩
  have HC2 := HC _ _ _ N2 K2 S2
  have BE := (BW.trans (B1.mono BW.size)).trans (B2.mono (Nat.le_trans BW.size B1.size))
  clear HO HC N0 N1 N2 S0 S1 S2 hs ks1 K2
  go_wp2_with fail
  refine HC2.out.mono ?_
  rintro e w3 ⟨rfl, B3⟩
  go_wp2
  go_ret
  exact ⟨rfl, BE.trans (B3.mono BE.size)⟩

end Go.Proofs.YtdpjkbhofebdiaaDoor
