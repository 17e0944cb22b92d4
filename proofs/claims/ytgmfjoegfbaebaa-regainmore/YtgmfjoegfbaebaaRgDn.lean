/-
  The walk of done: what is committed. Conditions: at most 200 reports, at most 7 replicas.
-/
import Derived.Test.YtgmfjoegfbaebaaRgGr
import Derived.Test.YtgmfjoegfbaebaaRgSm
namespace Go.Proofs.Ytgmfjoegfbaebaa.Rg
open Go.RowKit Go.Shelf In
set_option linter.unusedVariables false
attribute [local go_sem] Oper.semAt_some

theorem cput_keeps (W : World) (B : Nat) (x : Ch) (A : Option Addr) (c : Nat) : KeepsOthers W (cput W B x A c) :=
  ((((((((KeepsOthers.setCell _ _ _).trans (KeepsOthers.setCell _ _ _)).trans (KeepsOthers.setCell _ _ _)).trans (KeepsOthers.setCell _ _ _)).trans (KeepsOthers.setCell _ _ _)).trans (KeepsOthers.setCell _ _ _)).trans (KeepsOthers.setCell _ _ _)).trans (KeepsOthers.setCell _ _ _)).trans (KeepsOthers.setCell _ _ _)
theorem fr_own {β : Type} (D : Nat) (A : β → Option Addr) (xs : β → List Int) : Own (fun s W => Fr D W (A s) (xs s)) := fun s X Y row hs hg hrow => by
  rcases hs with h | ⟨b, off, h1, h2, h3, h4⟩
  · exact .inl h
  · exact .inr ⟨b, off, h1, h2, Nat.lt_of_lt_of_le h3 hg.size, fun j x hx => cell_kept (h4 j x hx) hg hrow⟩
theorem _root_.Go.Proofs.Ytgmfjoegfbaebaa.In.Fr.kept {D : Nat} {W : World} {A : Option Addr} {xs : List Int} (h : Fr D W A xs) {d : Nat} {ob : Obj} (hK : W.heap[d]? = some ob) (hc : ob.isCells = false) (o' : Obj) : Fr D (W.putObj d o') A xs :=
  fr_own D (fun (_ : Unit) => A) (fun _ => xs) () W _ (some d) h (grownBy_putObj' W d o') (fun r e => by cases e; exact ⟨_, hK, hc⟩)
theorem Cx.kept {W : World} {B : Nat} {x : Ch} {A : Option Addr} {c : Nat} (h : Cx W B x A c) {D : Nat} {ob : Obj} (hK : W.heap[D]? = some ob) (hc : ob.isCells = false) (o' : Obj) : Cx (W.putObj D o') B x A c := by
  have hne : B ≠ D := fun e => by subst e; rw [show W.heap[B]? = _ from h] at hK; cases hK; cases hc
  exact (World.putObj_heap_other hne).trans h
theorem boxed_kept {W : World} {B : Nat} {t : TypeId} {v : Value} (h : Boxed W B t v) {D : Nat} {ob : Obj} (hK : W.heap[D]? = some ob) (hc : ob.isCells = false) (o' : Obj) : Boxed (W.putObj D o') B t v := by
  have hne : B ≠ D := fun e => by subst e; rw [show W.heap[B]? = _ from h] at hK; cases hK; cases hc
  exact (World.putObj_heap_other hne).trans h
theorem zc_box {W : World} {B : Nat} (h : W.heap[B]? = some (.cells #[.int .i64 0, .int .i64 0, .int .i64 0, .int .i64 0, .int .i64 0, .int .i64 0, .string ⟨#[]⟩, .int .i64 0, .slice none 0 0] 32)) : Cx W B c0 none 0 := h
theorem run_done {V : World} {tm : Array Value} {B B' : Nat} {x : Ch} {A : Option Addr} {c : Nat} {b : Bool} (h2 : tm[2]?.getD undef = .pointer (some ⟨B, 0, none⟩)) (h3 : tm[3]?.getD undef = .pointer (some ⟨B', 0, none⟩)) (hb : Cx V B x A c) (hd : Boxed V B' 4 (.bool b)) :
    (results Try.f20 tm).run Try.prog V = .ok (.tuple #[chv x A c, .bool b]) V := by
  obtain ⟨c0, c1, c2, c3, c4, c5, c6, c7, c8⟩ := hb.cc
  have d := hd.cell
  simp [results, Try.f20, go_sem, h2, h3, c0, c1, c2, c3, c4, c5, c6, c7, c8, d]
def dv {L : List Rp} (pre : List (Of L)) : Option Rp := dn (pre.map (·.1))
theorem dv_snoc {L : List Rp} (pre : List (Of L)) (x : Of L) (h : dv pre = none) : dv (pre ++ [x]) = if x.1.r.st = 3 then some x.1 else none := by
  unfold dv dn at *
  rw [List.map_append, List.find?_append, h]
  by_cases hx : x.1.r.st = 3 <;> simp [hx]
theorem dv_pre {L : List Rp} {pre all : List (Of L)} {x : Rp} (h : dv pre = some x) (hp : pre <+: all) : dv all = some x := by
  obtain ⟨t, rfl⟩ := hp
  unfold dv dn at *
  rw [List.map_append, List.find?_append, h]
  rfl
theorem dv_all (L : List Rp) (n : Nat) : dv (cta L n) = dn (ct L n) := by
  unfold dv
  rw [cta_val]

set_option maxRecDepth 100000 in
set_option maxHeartbeats 1000000 in
theorem done_any (n : Nat) (h7 : n ≤ 7) (o : Int) (A : Option Addr) (c : Nat) (L : List Rp) (hl : Few L) (w : World) (hs : Ls w w.heap.size A L) :
    Calls Try.prog 20 #[hv n o A L.length c] w (ChoPost w (co (cw 1) (dn (ct L n))) (dn (ct L n)).isSome) := by
  refine (callsIn_wide (n := 6)).1 ?_
  refine callsIn_of_wp_marks Try.func20 rfl trivial ?_ rfl
  simp only [Try.ntmps20, List.size_toArray, List.length_cons, List.length_nil, Nat.reduceAdd, Nat.reduceSub, Array.replicate_succ, Array.replicate_zero, List.push_toArray, List.append_toArray, List.nil_append, List.cons_append]
  gi_wp2_with fail
  refine ⟨trivial, ?_⟩
  refine (callsIn_wide.2 (counting_any n o A L.length c _)).mono ?_
  rintro e w' ⟨rfl, rfl⟩
  gi_wp2
  have b1 := (lay_old (lay_old (heap_alloc_new (w.alloc (.cells #[.int .i64 (n : Int), .int .i64 o, .slice A L.length c] 48)) (.cells #[.int .i64 0, .int .i64 0, .int .i64 0, .int .i64 0, .int .i64 0, .int .i64 0, .string ⟨#[]⟩, .int .i64 0, .slice none 0 0] 32)) (.cells #[.bool false] 4)) (.cells #[.int .i64 (n : Int), .int .i64 o, .slice A L.length c] 48))
  have b2 := (lay_old (heap_alloc_new ((w.alloc (.cells #[.int .i64 (n : Int), .int .i64 o, .slice A L.length c] 48)).alloc (.cells #[.int .i64 0, .int .i64 0, .int .i64 0, .int .i64 0, .int .i64 0, .int .i64 0, .string ⟨#[]⟩, .int .i64 0, .slice none 0 0] 32)) (.cells #[.bool false] 4)) (.cells #[.int .i64 (n : Int), .int .i64 o, .slice A L.length c] 48))
  have b3 := (heap_alloc_new (((w.alloc (.cells #[.int .i64 (n : Int), .int .i64 o, .slice A L.length c] 48)).alloc (.cells #[.int .i64 0, .int .i64 0, .int .i64 0, .int .i64 0, .int .i64 0, .int .i64 0, .string ⟨#[]⟩, .int .i64 0, .slice none 0 0] 32)).alloc (.cells #[.bool false] 4)) (.cells #[.int .i64 (n : Int), .int .i64 o, .slice A L.length c] 48))
  have B0 : Below w.heap.size w ((((w.alloc (.cells #[.int .i64 (n : Int), .int .i64 o, .slice A L.length c] 48)).alloc (.cells #[.int .i64 0, .int .i64 0, .int .i64 0, .int .i64 0, .int .i64 0, .int .i64 0, .string ⟨#[]⟩, .int .i64 0, .slice none 0 0] 32)).alloc (.cells #[.bool false] 4)).alloc (.cells #[.int .i64 (n : Int), .int .i64 o, .slice A L.length c] 48)) := (((((Below.refl w.heap.size w).alloc (Nat.le_refl _) _).alloc (by simp) _).alloc (by simp; omega) _).alloc (by simp; omega) _)
  have sz : ((((w.alloc (.cells #[.int .i64 (n : Int), .int .i64 o, .slice A L.length c] 48)).alloc (.cells #[.int .i64 0, .int .i64 0, .int .i64 0, .int .i64 0, .int .i64 0, .int .i64 0, .string ⟨#[]⟩, .int .i64 0, .slice none 0 0] 32)).alloc (.cells #[.bool false] 4)).alloc (.cells #[.int .i64 (n : Int), .int .i64 o, .slice A L.length c] 48)).heap.size = w.heap.size + 4 := by simp
  simp only [World.size_alloc] at b1 b2 b3
  obtain ⟨W0, hW0⟩ : ∃ W0, ((((w.alloc (.cells #[.int .i64 (n : Int), .int .i64 o, .slice A L.length c] 48)).alloc (.cells #[.int .i64 0, .int .i64 0, .int .i64 0, .int .i64 0, .int .i64 0, .int .i64 0, .string ⟨#[]⟩, .int .i64 0, .slice none 0 0] 32)).alloc (.cells #[.bool false] 4)).alloc (.cells #[.int .i64 (n : Int), .int .i64 o, .slice A L.length c] 48)) = W0 := ⟨_, rfl⟩
  rw [hW0] at b1 b2 b3 B0 sz ⊢
  clear hW0
  refine wpIn_rangeFunc_ownH rfl (by omega) (gf := 40) (lb := #[.pointer (some ⟨w.heap.size + 1 + 1 + 1, 0, none⟩)]) rfl trivial (enters_of Try.func40 (by kernel_rfl) rfl)
    (stops (6 - 1) (by omega) (w.heap.size + 1 + 1 + 1) w.heap.size n h7 o A c L hl.1 W0 b3 (hs.below B0) B0.size) kq_t (kq_b (by omega) (by omega)) (Below.refl _ _) (fun _ => rfl)
    (fun pre W => (dv pre = none ∧ (Cx W (w.heap.size + 1) c0 none 0 ∧ Boxed W (w.heap.size + 1 + 1) 4 (.bool false))) ∧ (Below w.heap.size w W ∧ w.heap.size + 4 ≤ W.heap.size))
    (fun e pre W => ∃ x A' c', (((e = .ret ∧ dv pre = some x) ∧ (Cx W (w.heap.size + 1) (cw 1 x.r) A' c' ∧ Boxed W (w.heap.size + 1 + 1) 4 (.bool true))) ∧ Fr (w.heap.size + 4) W A' x.r.xs) ∧ (Below w.heap.size w W ∧ w.heap.size + 4 ≤ W.heap.size))
    (OwnFrom.and (OwnFrom.and (ownFrom_pure _ _) (OwnFrom.and (Own.from (lay_own _ _ _) _) (Own.from (boxed_own _ _ _) _))) (OwnFrom.and (ownFrom_below (Nat.le_refl _) (by omega)) (size_own _ _)))
    (fun e s X Y row hs hg hr => by
      obtain ⟨x, A', c', ⟨⟨⟨he, hd⟩, e1, e2⟩, e3⟩, e4, e5⟩ := hs
      have hr2 := fun r e => (hr r e).2
      exact ⟨x, A', c', ⟨⟨⟨he, hd⟩, lay_own _ _ (fun (_ : Unit) => chc (cw 1 x.r) A' c') () X Y row e1 hg hr2, boxed_own _ _ (fun (_ : Unit) => .bool true) () X Y row e2 hg hr2⟩, fr_own _ (fun (_ : Unit) => A') (fun _ => x.r.xs) () X Y row e3 hg hr2⟩, ownFrom_below (w₀ := w) (B := W0.heap.size) (Nat.le_refl _) (by omega) () X Y row e4 hg hr, Nat.le_trans e5 hg.size⟩)
    ⟨⟨rfl, zc_box b1, b2⟩, B0, by omega⟩
    (fun x a' W => ∃ Bx, w.heap.size + 3 < Bx ∧ Rx W Bx x.1.r x.1.A x.1.c ∧ a' = { tmps := #[hv n o A L.length c, .pointer (some ⟨w.heap.size, 0, none⟩), .pointer (some ⟨w.heap.size + 1, 0, none⟩), .pointer (some ⟨w.heap.size + 1 + 1, 0, none⟩), .pointer (some ⟨Bx, 0, none⟩), hv n o A L.length c, .func (.func 40) #[] #[.pointer (some ⟨w.heap.size + 1 + 1 + 1, 0, none⟩)], rr x.1, undef, undef, undef, undef, undef, undef], defers := [] })
    (fun x a' _ X Y row hs hg hr => by obtain ⟨Bx, h1, h2, h3⟩ := hs; exact ⟨Bx, h1, lay_own Bx 42 (fun (_ : Unit) => rcs x.1.r x.1.A x.1.c) () X Y row h2 hg (fun r e => (hr r e).2), h3⟩)
    ?assign ?body ?done ?stop
  case assign =>
    rintro l pre x W K ⟨⟨hd, d1, d2⟩, hB, hZ⟩ hK
    have hsW := hB.size
    gi_wp2
    exact hK _ _ ((KeepsOthers.alloc _ _).from _) ⟨(Below.refl _ W).alloc hsW _, heap_alloc_old W _ (by omega)⟩ ⟨⟨hd, d1.old _, d2.alloc _⟩, hB.alloc hsW _, by simp; omega⟩ ⟨W.heap.size, by omega, rx_new W x.1.r x.1.A x.1.c, rfl⟩
  case body =>
    rintro l pre x a' W hlw ⟨r, hr⟩ ⟨⟨hd, d1, d2⟩, hB, hZ⟩ ⟨Bx, hBx, bX, rfl⟩ hlt
    have E := Lib.hid (dv_snoc pre x hd)
    have hsW := hB.size
    generalize hpx : dv (pre ++ [x]) = gx at *
    obtain ⟨⟨xf, ⟨st, pn, pb, vn, vb, u, s', k, h, n', t, q, xs⟩, xA, xc⟩, hx⟩ := x
    have SX := Lib.hid (((hs.below hB).of hx).mono hsW)
    have LX := hl.2 _ hx
    dsimp only at E bX SX LX ⊢
    obtain ⟨x0, x1, x2, x3, x4, x5, x6, x7, x8, x9, x10, x11, x12⟩ := bX.rb
    have l5 := bX.lt
    by_cases hst : 3 = st
    · subst hst
      have E2 : Hid (gx = some ⟨xf, ⟨3, pn, pb, vn, vb, u, s', k, h, n', t, q, xs⟩, xA, xc⟩) := Lib.hid (E.out.trans (if_pos rfl))
      clear E
      have HW : Hid (Calls Try.prog 34 #[.int .i64 1, rv ⟨3, pn, pb, vn, vb, u, s', k, h, n', t, q, xs⟩ xA xc] W (ChP W (cw 1 ⟨3, pn, pb, vn, vb, u, s', k, h, n', t, q, xs⟩))) := with_any 1 ⟨3, pn, pb, vn, vb, u, s', k, h, n', t, q, xs⟩ xA xc W SX.out LX
      gi_wp2_with fail
      refine ⟨trivial, ?_⟩
      refine (CallsIn.inRound l (callsIn_wide.2 HW.out)).mono ?_
      rintro e w1 ⟨A9, c9, rfl, f9, hb1⟩
      have n1 := d1.on hb1 d1.lt
      have n2 : Boxed w1 _ 4 _ := (hb1.block _ d2.lt).trans d2
      obtain ⟨z0, z1, z2, z3, z4, z5, z6, z7, z8⟩ := n1.cc
      have g0 := n1.free 0
      have g1 := n1.free 1
      have g2 := n1.free 2
      have g3 := n1.free 3
      have g4 := n1.free 4
      have g5 := n1.free 5
      have g6 := n1.free 6
      have g7 := n1.free 7
      have g8 := n1.free 8
      have cn := n2.cell
      have fn := n2.frozen
      have hbD : Below w.heap.size W w1 := hb1.mono hsW
      have K1 := (cput_keeps w1 (w.heap.size + 1) (cw 1 ⟨3, pn, pb, vn, vb, u, s', k, h, n', t, q, xs⟩) A9 c9).trans (KeepsOthers.setCell (cput w1 (w.heap.size + 1) (cw 1 ⟨3, pn, pb, vn, vb, u, s', k, h, n', t, q, xs⟩) A9 c9) ⟨w.heap.size + 1 + 1, 0, none⟩ (.bool true))
      have L1 : Below w.heap.size W ((cput w1 (w.heap.size + 1) (cw 1 ⟨3, pn, pb, vn, vb, u, s', k, h, n', t, q, xs⟩) A9 c9).setCell ⟨w.heap.size + 1 + 1, 0, none⟩ (.bool true)) := (below_cput hbD (B := w.heap.size + 1) (by omega) (cw 1 ⟨3, pn, pb, vn, vb, u, s', k, h, n', t, q, xs⟩) A9 c9).setCell (p := ⟨w.heap.size + 1 + 1, 0, none⟩) (by simp; omega) (.bool true)
      have m1 : Cx ((cput w1 (w.heap.size + 1) (cw 1 ⟨3, pn, pb, vn, vb, u, s', k, h, n', t, q, xs⟩) A9 c9).setCell ⟨w.heap.size + 1 + 1, 0, none⟩ (.bool true)) (w.heap.size + 1) (cw 1 ⟨3, pn, pb, vn, vb, u, s', k, h, n', t, q, xs⟩) A9 c9 := (n1.put (cw 1 ⟨3, pn, pb, vn, vb, u, s', k, h, n', t, q, xs⟩) A9 c9).other (p := ⟨w.heap.size + 1 + 1, 0, none⟩) (by simp) (.bool true)
      have m2 : Boxed ((cput w1 (w.heap.size + 1) (cw 1 ⟨3, pn, pb, vn, vb, u, s', k, h, n', t, q, xs⟩) A9 c9).setCell ⟨w.heap.size + 1 + 1, 0, none⟩ (.bool true)) (w.heap.size + 1 + 1) 4 (.bool true) := Boxed.set (.bool true) (show Boxed (cput w1 (w.heap.size + 1) (cw 1 ⟨3, pn, pb, vn, vb, u, s', k, h, n', t, q, xs⟩) A9 c9) (w.heap.size + 1 + 1) 4 _ from (heap_cput (w := w1) (B := w.heap.size + 1) n2 (by omega) (cw 1 ⟨3, pn, pb, vn, vb, u, s', k, h, n', t, q, xs⟩) A9 c9))
      have m9 : Fr (w.heap.size + 4) ((cput w1 (w.heap.size + 1) (cw 1 ⟨3, pn, pb, vn, vb, u, s', k, h, n', t, q, xs⟩) A9 c9).setCell ⟨w.heap.size + 1 + 1, 0, none⟩ (.bool true)) A9 xs := ((f9.cput (B := w.heap.size + 1) (by omega) (cw 1 ⟨3, pn, pb, vn, vb, u, s', k, h, n', t, q, xs⟩) A9 c9).set (p := ⟨w.heap.size + 1 + 1, 0, none⟩) (by show w.heap.size + 1 + 1 < _; omega) (.bool true)).mono hZ
      have hZ2 : w.heap.size + 4 ≤ ((cput w1 (w.heap.size + 1) (cw 1 ⟨3, pn, pb, vn, vb, u, s', k, h, n', t, q, xs⟩) A9 c9).setCell ⟨w.heap.size + 1 + 1, 0, none⟩ (.bool true)).heap.size := by have := hb1.size; simp; omega
      gi_wp2
      exact ⟨(keepsFrom_of hb1).trans (K1.from _), ⟨xf, ⟨3, pn, pb, vn, vb, u, s', k, h, n', t, q, xs⟩, xA, xc⟩, A9, c9, ⟨⟨⟨rfl, hpx.trans E2.out⟩, m1, m2⟩, m9⟩, hB.trans L1, hZ2⟩
    · have E2 : Hid (gx = none) := Lib.hid (E.out.trans (if_neg (fun e => hst e.symm)))
      clear E
      have hst2 : ¬ st = 3 := fun e => hst e.symm
      have hst3 : (st == 3) = false := by simpa using hst2
      clear hst
      gi_wp2
      exact ⟨KeepsFrom.refl _ _, ⟨Below.refl _ _, rfl⟩, ⟨hpx.trans E2.out, d1, d2⟩, hB, hZ⟩
  case done =>
    rintro D ys W hD rfl ⟨⟨hd, d1, d2⟩, hB, hZ⟩ hK
    rw [dv_all] at hd
    obtain ⟨z0, z1, z2, z3, z4, z5, z6, z7, z8⟩ := d1.cc
    have g0 := d1.free 0
    have g1 := d1.free 1
    have g2 := d1.free 2
    have g3 := d1.free 3
    have g4 := d1.free 4
    have g5 := d1.free 5
    have g6 := d1.free 6
    have g7 := d1.free 7
    have g8 := d1.free 8
    have cn := d2.cell
    have fn := d2.frozen
    have H := Lib.hid hd
    clear hd
    gi_wp2
    have hK' := ((cput_keeps W (w.heap.size + 1) c0 none 0).trans (KeepsOthers.setCell (cput W (w.heap.size + 1) c0 none 0) ⟨w.heap.size + 1 + 1, 0, none⟩ (.bool false))).same D _ hK rfl
    refine ⟨by simp, .inl ⟨_, _, rfl, run_takeDeferred hK', ?_⟩⟩
    have m1 : Cx ((cput W (w.heap.size + 1) c0 none 0).setCell ⟨w.heap.size + 1 + 1, 0, none⟩ (.bool false)) (w.heap.size + 1) c0 none 0 := (d1.put c0 none 0).other (p := ⟨w.heap.size + 1 + 1, 0, none⟩) (by simp) (.bool false)
    have m2 : Boxed ((cput W (w.heap.size + 1) c0 none 0).setCell ⟨w.heap.size + 1 + 1, 0, none⟩ (.bool false)) (w.heap.size + 1 + 1) 4 (.bool false) := Boxed.set (.bool false) (show Boxed (cput W (w.heap.size + 1) c0 none 0) (w.heap.size + 1 + 1) 4 _ from (heap_cput (w := W) (B := w.heap.size + 1) d2 (by omega) c0 none 0))
    have L1 : Below w.heap.size W ((cput W (w.heap.size + 1) c0 none 0).setCell ⟨w.heap.size + 1 + 1, 0, none⟩ (.bool false)) := (below_cput (Below.refl _ _) (B := w.heap.size + 1) (by omega) c0 none 0).setCell (p := ⟨w.heap.size + 1 + 1, 0, none⟩) (by simp; omega) (.bool false)
    refine ⟨_, run_done (by rfl) (by rfl) (m1.kept hK' rfl _) (boxed_kept m2 hK' rfl _), ?_⟩
    rw [H.out]
    exact ⟨none, 0, rfl, .inl rfl, (hB.trans L1).trans (belowK_b (w := w) (Nat.le_refl _) _ D _ _ (by omega) hK' rfl rfl)⟩
  case stop =>
    rintro D e pre W hD hpre ⟨x, A', c', ⟨⟨⟨rfl, hd⟩, d1, d2⟩, f9⟩, hB, hZ⟩ hK
    have hd2 := dv_pre hd hpre
    rw [dv_all] at hd2
    have H := Lib.hid hd2
    clear hd hd2
    gi_wp2
    refine ⟨by simp, .inl ⟨_, _, rfl, run_takeDeferred hK, ?_⟩⟩
    refine ⟨_, run_done (by rfl) (by rfl) (d1.kept hK rfl _) (boxed_kept d2 hK rfl _), ?_⟩
    rw [H.out]
    exact ⟨A', c', rfl, (f9.kept hK rfl _).mono (by omega), hB.trans (belowK_b (w := w) (Nat.le_refl _) W D _ _ (by omega) hK rfl rfl)⟩

end Go.Proofs.Ytgmfjoegfbaebaa.Rg
