/-
  The walk of heard.greatest. Conditions: at most 200 reports, at most 7 replicas.
-/
import Derived.Test.YtgmfjoegfbaebaaRgCn
namespace Go.Proofs.Ytgmfjoegfbaebaa.Rg
open Go.RowKit Go.Shelf In
set_option linter.unusedVariables false
attribute [local go_sem] Oper.semAt_some

theorem lay_old {W : World} {B : Nat} {ob : Obj} (h : W.heap[B]? = some ob) (o : Obj) : (W.alloc o).heap[B]? = some ob := (heap_alloc_old W o (Array.getElem?_eq_some_iff.1 h).1).trans h
theorem keepsFrom_of {B : Nat} {W W' : World} (h : Below W.heap.size W W') : KeepsFrom B W W' := KeepsFrom.of_grownBy (grown_none h) (fun j e => by cases e)
theorem keeps_put (W : World) (B : Nat) (r : Rd) (A : Option Addr) (c : Nat) : KeepsOthers W (In.put W B r A c) :=
  ((((((((((((KeepsOthers.setCell _ _ _).trans (KeepsOthers.setCell _ _ _)).trans (KeepsOthers.setCell _ _ _)).trans (KeepsOthers.setCell _ _ _)).trans (KeepsOthers.setCell _ _ _)).trans (KeepsOthers.setCell _ _ _)).trans (KeepsOthers.setCell _ _ _)).trans (KeepsOthers.setCell _ _ _)).trans (KeepsOthers.setCell _ _ _)).trans (KeepsOthers.setCell _ _ _)).trans (KeepsOthers.setCell _ _ _)).trans (KeepsOthers.setCell _ _ _)).trans (KeepsOthers.setCell _ _ _)
theorem heap_put {w : World} {B B' : Nat} (hne : B' ≠ B) (r : Rd) (A : Option Addr) (c : Nat) : (In.put w B r A c).heap[B']? = w.heap[B']? := by
  have e (W : World) (i : Nat) (v : Value) : (W.setCell ⟨B, i, none⟩ v).heap[B']? = W.heap[B']? := Below.heap_setCell W ⟨B, i, none⟩ v B' hne
  unfold In.put
  simp only [e]
theorem rx_drew {W : World} {B : Nat} {r : Rd} {A : Option Addr} {c : Nat} (h : Rx W B r A c) : Rx W.drew B r A c := h
theorem zr_box {W : World} {B : Nat} (h : W.heap[B]? = some (.cells #[.int .i64 0, .int .i64 0, .int .i64 0, .int .i64 0, .int .i64 0, .int .i64 0, .int .i64 0, .int .i64 0, .int .i64 0, .int .i64 0, .string ⟨#[]⟩, .int .i64 0, .slice none 0 0] 42)) : Rx W B z0.r z0.A z0.c := h
/-- What is behind a turn of the block of deferred calls. -/
theorem _root_.Go.Proofs.Ytgmfjoegfbaebaa.In.Rx.kept {W : World} {B : Nat} {r : Rd} {A : Option Addr} {c : Nat} (h : Rx W B r A c) {D : Nat} {ob : Obj} (hK : W.heap[D]? = some ob) (hc : ob.isCells = false) (o' : Obj) : Rb (W.putObj D o') B r A c := by
  have hne : B ≠ D := fun e => by subst e; rw [show W.heap[B]? = _ from h] at hK; cases hK; cases hc
  exact Rx.rb ((World.putObj_heap_other hne).trans h)
def gv {L : List Rp} (s : Int) (pre : List (Of L)) : Option Rp := gt s (pre.map (·.1))
theorem gv_snoc {L : List Rp} (s : Int) (pre : List (Of L)) (x : Of L) : gv s (pre ++ [x]) = gs s (gv s pre) x.1 := by
  unfold gv
  rw [List.map_append]
  exact gt_snoc s _ _
theorem gv_all (s : Int) (L : List Rp) (n : Nat) : gv s (cta L n) = gt s (ct L n) := by
  unfold gv
  rw [cta_val]
theorem size_own {β : Type} (B k : Nat) : OwnFrom B (fun (_ : β) W => k ≤ W.heap.size) := fun _ _ _ _ hs hg _ => Nat.le_trans hs hg.size

theorem two_gr {V : World} {tm : Array Value} {B : Nat} {r : Rd} {A : Option Addr} {c : Nat} {b : Bool} (h2 : tm[4]?.getD undef = .pointer (some ⟨B, 0, none⟩)) (h3 : tm[5]?.getD undef = .bool b) (hb : Rb V B r A c) :
    (results Try.f35 tm).run Try.prog V = .ok (.tuple #[rv r A c, .bool b]) V := by
  obtain ⟨c0, c1, c2, c3, c4, c5, c6, c7, c8, c9, c10, c11, c12⟩ := hb
  simp [results, Try.f35, go_sem, h2, h3, c0, c1, c2, c3, c4, c5, c6, c7, c8, c9, c10, c11, c12]
set_option maxRecDepth 100000 in
set_option maxHeartbeats 1000000 in
theorem greatest_any (s : Int) (n : Nat) (h7 : n ≤ 7) (o : Int) (A : Option Addr) (c : Nat) (L : List Rp) (hl : L.length ≤ 200) (w : World) (hs : Ls w w.heap.size A L) :
    Calls Try.prog 35 #[hv n o A L.length c, .int .i64 s] w (RcP w (gt s (ct L n))) := by
  refine (callsIn_wide (n := 6)).1 ?_
  refine callsIn_of_wp_marks Try.func35 rfl trivial ?_ rfl
  simp only [Try.ntmps35, List.size_toArray, List.length_cons, List.length_nil, Nat.reduceAdd, Nat.reduceSub, Array.replicate_succ, Array.replicate_zero, List.push_toArray, List.append_toArray, List.nil_append, List.cons_append]
  gi_wp2_with fail
  refine ⟨trivial, ?_⟩
  refine (callsIn_wide.2 (counting_any n o A L.length c _)).mono ?_
  rintro e w' ⟨rfl, rfl⟩
  gi_wp2
  have b1 := (lay_old (lay_old (lay_old (lay_old (heap_alloc_new (w.alloc (.cells #[.int .i64 (n : Int), .int .i64 o, .slice A L.length c] 48)) (.cells #[.int .i64 s] 3)) (.cells #[.int .i64 0, .int .i64 0, .int .i64 0, .int .i64 0, .int .i64 0, .int .i64 0, .int .i64 0, .int .i64 0, .int .i64 0, .int .i64 0, .string ⟨#[]⟩, .int .i64 0, .slice none 0 0] 42)) (.cells #[.int .i64 0, .int .i64 0, .int .i64 0, .int .i64 0, .int .i64 0, .int .i64 0, .int .i64 0, .int .i64 0, .int .i64 0, .int .i64 0, .string ⟨#[]⟩, .int .i64 0, .slice none 0 0] 42)) (.cells #[.bool false] 4)) (.cells #[.int .i64 (n : Int), .int .i64 o, .slice A L.length c] 48))
  have b2 := (lay_old (lay_old (lay_old (heap_alloc_new ((w.alloc (.cells #[.int .i64 (n : Int), .int .i64 o, .slice A L.length c] 48)).alloc (.cells #[.int .i64 s] 3)) (.cells #[.int .i64 0, .int .i64 0, .int .i64 0, .int .i64 0, .int .i64 0, .int .i64 0, .int .i64 0, .int .i64 0, .int .i64 0, .int .i64 0, .string ⟨#[]⟩, .int .i64 0, .slice none 0 0] 42)) (.cells #[.int .i64 0, .int .i64 0, .int .i64 0, .int .i64 0, .int .i64 0, .int .i64 0, .int .i64 0, .int .i64 0, .int .i64 0, .int .i64 0, .string ⟨#[]⟩, .int .i64 0, .slice none 0 0] 42)) (.cells #[.bool false] 4)) (.cells #[.int .i64 (n : Int), .int .i64 o, .slice A L.length c] 48))
  have b3 := (lay_old (lay_old (heap_alloc_new (((w.alloc (.cells #[.int .i64 (n : Int), .int .i64 o, .slice A L.length c] 48)).alloc (.cells #[.int .i64 s] 3)).alloc (.cells #[.int .i64 0, .int .i64 0, .int .i64 0, .int .i64 0, .int .i64 0, .int .i64 0, .int .i64 0, .int .i64 0, .int .i64 0, .int .i64 0, .string ⟨#[]⟩, .int .i64 0, .slice none 0 0] 42)) (.cells #[.int .i64 0, .int .i64 0, .int .i64 0, .int .i64 0, .int .i64 0, .int .i64 0, .int .i64 0, .int .i64 0, .int .i64 0, .int .i64 0, .string ⟨#[]⟩, .int .i64 0, .slice none 0 0] 42)) (.cells #[.bool false] 4)) (.cells #[.int .i64 (n : Int), .int .i64 o, .slice A L.length c] 48))
  have b4 := (lay_old (heap_alloc_new ((((w.alloc (.cells #[.int .i64 (n : Int), .int .i64 o, .slice A L.length c] 48)).alloc (.cells #[.int .i64 s] 3)).alloc (.cells #[.int .i64 0, .int .i64 0, .int .i64 0, .int .i64 0, .int .i64 0, .int .i64 0, .int .i64 0, .int .i64 0, .int .i64 0, .int .i64 0, .string ⟨#[]⟩, .int .i64 0, .slice none 0 0] 42)).alloc (.cells #[.int .i64 0, .int .i64 0, .int .i64 0, .int .i64 0, .int .i64 0, .int .i64 0, .int .i64 0, .int .i64 0, .int .i64 0, .int .i64 0, .string ⟨#[]⟩, .int .i64 0, .slice none 0 0] 42)) (.cells #[.bool false] 4)) (.cells #[.int .i64 (n : Int), .int .i64 o, .slice A L.length c] 48))
  have b5 := (heap_alloc_new (((((w.alloc (.cells #[.int .i64 (n : Int), .int .i64 o, .slice A L.length c] 48)).alloc (.cells #[.int .i64 s] 3)).alloc (.cells #[.int .i64 0, .int .i64 0, .int .i64 0, .int .i64 0, .int .i64 0, .int .i64 0, .int .i64 0, .int .i64 0, .int .i64 0, .int .i64 0, .string ⟨#[]⟩, .int .i64 0, .slice none 0 0] 42)).alloc (.cells #[.int .i64 0, .int .i64 0, .int .i64 0, .int .i64 0, .int .i64 0, .int .i64 0, .int .i64 0, .int .i64 0, .int .i64 0, .int .i64 0, .string ⟨#[]⟩, .int .i64 0, .slice none 0 0] 42)).alloc (.cells #[.bool false] 4)) (.cells #[.int .i64 (n : Int), .int .i64 o, .slice A L.length c] 48))
  have B0 : Below w.heap.size w ((((((w.alloc (.cells #[.int .i64 (n : Int), .int .i64 o, .slice A L.length c] 48)).alloc (.cells #[.int .i64 s] 3)).alloc (.cells #[.int .i64 0, .int .i64 0, .int .i64 0, .int .i64 0, .int .i64 0, .int .i64 0, .int .i64 0, .int .i64 0, .int .i64 0, .int .i64 0, .string ⟨#[]⟩, .int .i64 0, .slice none 0 0] 42)).alloc (.cells #[.int .i64 0, .int .i64 0, .int .i64 0, .int .i64 0, .int .i64 0, .int .i64 0, .int .i64 0, .int .i64 0, .int .i64 0, .int .i64 0, .string ⟨#[]⟩, .int .i64 0, .slice none 0 0] 42)).alloc (.cells #[.bool false] 4)).alloc (.cells #[.int .i64 (n : Int), .int .i64 o, .slice A L.length c] 48)) := (((((((Below.refl w.heap.size w).alloc (Nat.le_refl _) _).alloc (by simp) _).alloc (by simp; omega) _).alloc (by simp; omega) _).alloc (by simp; omega) _).alloc (by simp; omega) _)
  have sz : ((((((w.alloc (.cells #[.int .i64 (n : Int), .int .i64 o, .slice A L.length c] 48)).alloc (.cells #[.int .i64 s] 3)).alloc (.cells #[.int .i64 0, .int .i64 0, .int .i64 0, .int .i64 0, .int .i64 0, .int .i64 0, .int .i64 0, .int .i64 0, .int .i64 0, .int .i64 0, .string ⟨#[]⟩, .int .i64 0, .slice none 0 0] 42)).alloc (.cells #[.int .i64 0, .int .i64 0, .int .i64 0, .int .i64 0, .int .i64 0, .int .i64 0, .int .i64 0, .int .i64 0, .int .i64 0, .int .i64 0, .string ⟨#[]⟩, .int .i64 0, .slice none 0 0] 42)).alloc (.cells #[.bool false] 4)).alloc (.cells #[.int .i64 (n : Int), .int .i64 o, .slice A L.length c] 48)).heap.size = w.heap.size + 6 := by simp
  simp only [World.size_alloc] at b1 b2 b3 b4 b5
  obtain ⟨W0, hW0⟩ : ∃ W0, ((((((w.alloc (.cells #[.int .i64 (n : Int), .int .i64 o, .slice A L.length c] 48)).alloc (.cells #[.int .i64 s] 3)).alloc (.cells #[.int .i64 0, .int .i64 0, .int .i64 0, .int .i64 0, .int .i64 0, .int .i64 0, .int .i64 0, .int .i64 0, .int .i64 0, .int .i64 0, .string ⟨#[]⟩, .int .i64 0, .slice none 0 0] 42)).alloc (.cells #[.int .i64 0, .int .i64 0, .int .i64 0, .int .i64 0, .int .i64 0, .int .i64 0, .int .i64 0, .int .i64 0, .int .i64 0, .int .i64 0, .string ⟨#[]⟩, .int .i64 0, .slice none 0 0] 42)).alloc (.cells #[.bool false] 4)).alloc (.cells #[.int .i64 (n : Int), .int .i64 o, .slice A L.length c] 48)) = W0 := ⟨_, rfl⟩
  rw [hW0] at b1 b2 b3 b4 b5 B0 sz ⊢
  clear hW0
  refine wpIn_rangeFunc_ownH rfl (by omega) (gf := 40) (lb := #[.pointer (some ⟨w.heap.size + 1 + 1 + 1 + 1 + 1, 0, none⟩)]) rfl trivial (enters_of Try.func40 (by kernel_rfl) rfl)
    (stops (6 - 1) (by omega) (w.heap.size + 1 + 1 + 1 + 1 + 1) w.heap.size n h7 o A c L hl W0 b5 (hs.below B0) B0.size) kq_t (kq_b (by omega) (by omega)) (Below.refl _ _) (fun _ => rfl)
    (fun pre W => ((Rx W (w.heap.size + 1 + 1 + 1) ((gv s pre).getD z0).r ((gv s pre).getD z0).A ((gv s pre).getD z0).c ∧ Boxed W (w.heap.size + 1 + 1 + 1 + 1) 4 (.bool (gv s pre).isSome)) ∧ (Boxed W (w.heap.size + 1) 3 (.int .i64 s) ∧ Rx W (w.heap.size + 1 + 1) z0.r z0.A z0.c)) ∧ (Below w.heap.size w W ∧ w.heap.size + 6 ≤ W.heap.size))
    (fun _ _ _ => False)
    (OwnFrom.and (OwnFrom.and (OwnFrom.and (Own.from (lay_own _ _ _) _) (Own.from (boxed_own _ _ _) _)) (OwnFrom.and (Own.from (boxed_own _ _ _) _) (Own.from (lay_own _ _ _) _))) (OwnFrom.and (ownFrom_below (Nat.le_refl _) (by omega)) (size_own _ _)))
    (fun _ _ _ _ _ hs _ _ => hs)
    ⟨⟨⟨zr_box b3, b4⟩, b1, zr_box b2⟩, B0, by omega⟩
    (fun x a' W => ∃ Bx, w.heap.size + 5 < Bx ∧ Rx W Bx x.1.r x.1.A x.1.c ∧ a' = { tmps := #[hv n o A L.length c, .int .i64 s, .pointer (some ⟨w.heap.size, 0, none⟩), .pointer (some ⟨w.heap.size + 1, 0, none⟩), .pointer (some ⟨w.heap.size + 1 + 1, 0, none⟩), .bool false, .pointer (some ⟨w.heap.size + 1 + 1 + 1, 0, none⟩), .pointer (some ⟨w.heap.size + 1 + 1 + 1 + 1, 0, none⟩), .pointer (some ⟨Bx, 0, none⟩), .agg #[.int .i64 0, .int .i64 0, .int .i64 0, .int .i64 0, .int .i64 0, .int .i64 0, .int .i64 0, .int .i64 0, .int .i64 0, .int .i64 0, .string ⟨#[]⟩, .int .i64 0, .slice none 0 0], hv n o A L.length c, .func (.func 40) #[] #[.pointer (some ⟨w.heap.size + 1 + 1 + 1 + 1 + 1, 0, none⟩)], rr x.1, undef, undef, undef, undef, undef, undef, undef, undef, undef, undef, undef, undef, undef, undef, undef, undef, undef, undef, undef], defers := [] })
    (fun x a' _ X Y row hs hg hr => by obtain ⟨Bx, h1, h2, h3⟩ := hs; exact ⟨Bx, h1, lay_own Bx 42 (fun (_ : Unit) => rcs x.1.r x.1.A x.1.c) () X Y row h2 hg (fun r e => (hr r e).2), h3⟩)
    ?assign ?body ?done ?stop
  case assign =>
    rintro l pre x W K ⟨⟨⟨d3, d4⟩, d1, d2⟩, hB, hZ⟩ hK
    have hsW := hB.size
    have l4 := d4.lt
    gi_wp2
    exact hK _ _ ((KeepsOthers.alloc _ _).from _) ⟨(Below.refl _ W).alloc hsW _, heap_alloc_old W _ (by omega)⟩ ⟨⟨⟨d3.old _, d4.alloc _⟩, d1.alloc _, d2.old _⟩, hB.alloc hsW _, by simp; omega⟩ ⟨W.heap.size, by omega, rx_new W x.1.r x.1.A x.1.c, rfl⟩
  case body =>
    rintro l pre x a' W hlw ⟨r, hr⟩ ⟨⟨⟨d3, d4⟩, d1, d2⟩, hB, hZ⟩ ⟨Bx, hBx, bX, rfl⟩ hlt
    have E := Lib.hid (gv_snoc s pre x)
    have hsW := hB.size
    generalize hpx : gv s (pre ++ [x]) = gx at *
    obtain ⟨⟨xf, ⟨st, pn, pb, vn, vb, u, s', k, h, n', t, q, xs⟩, xA, xc⟩, hx⟩ := x
    dsimp only at E bX ⊢
    obtain ⟨x0, x1, x2, x3, x4, x5, x6, x7, x8, x9, x10, x11, x12⟩ := bX.rb
    have c1 := d1.cell
    have g0 := d3.free 0
    have g1 := d3.free 1
    have g2 := d3.free 2
    have g3 := d3.free 3
    have g4 := d3.free 4
    have g5 := d3.free 5
    have g6 := d3.free 6
    have g7 := d3.free 7
    have g8 := d3.free 8
    have g9 := d3.free 9
    have g10 := d3.free 10
    have g11 := d3.free 11
    have g12 := d3.free 12
    have f4 := d4.frozen
    have l3 := d3.lt
    have l4 := d4.lt
    have l5 := bX.lt
    by_cases hst : s = st
    · subst hst
      rcases hg : gv s pre with _ | y
      · rw [hg] at d3 d4 E
        have E2 : Hid (gx = some ⟨xf, ⟨s, pn, pb, vn, vb, u, s', k, h, n', t, q, xs⟩, xA, xc⟩) := Lib.hid (E.out.trans (if_pos rfl))
        clear E
        have c4 := d4.cell
        simp only [Option.isSome_none, Option.getD_none] at c4 d3 d4
        obtain ⟨m0, m1, m2, m3, m4, m5, m6, m7, m8, m9, m10, m11, m12⟩ := d3.rb
        gi_wp2
        refine ⟨trivial, ?_⟩
        gi_wp2
        have hb1 : Below W.heap.size W W := Below.refl _ _
        have n3 : Rx W (w.heap.size + 1 + 1 + 1) _ _ _ := d3.on hb1 d3.lt
        have n4 : Boxed W (w.heap.size + 1 + 1 + 1 + 1) 4 _ := (hb1.block _ d4.lt).trans d4
        have n1 : Boxed W (w.heap.size + 1) 3 _ := (hb1.block _ d1.lt).trans d1
        have n2 : Rx W (w.heap.size + 1 + 1) _ _ _ := d2.on hb1 d2.lt
        have hbD : Below w.heap.size W W := hb1.mono hsW
        have K1 : KeepsOthers W ((In.put W (w.heap.size + 1 + 1 + 1) ⟨s, pn, pb, vn, vb, u, s', k, h, n', t, q, xs⟩ xA xc).setCell ⟨w.heap.size + 1 + 1 + 1 + 1, 0, none⟩ (.bool true)) := (keeps_put W (w.heap.size + 1 + 1 + 1) ⟨s, pn, pb, vn, vb, u, s', k, h, n', t, q, xs⟩ xA xc).trans (KeepsOthers.setCell (In.put W (w.heap.size + 1 + 1 + 1) ⟨s, pn, pb, vn, vb, u, s', k, h, n', t, q, xs⟩ xA xc) ⟨w.heap.size + 1 + 1 + 1 + 1, 0, none⟩ (.bool true))
        have L1 : Below w.heap.size W ((In.put W (w.heap.size + 1 + 1 + 1) ⟨s, pn, pb, vn, vb, u, s', k, h, n', t, q, xs⟩ xA xc).setCell ⟨w.heap.size + 1 + 1 + 1 + 1, 0, none⟩ (.bool true)) := (below_put hbD (B := w.heap.size + 1 + 1 + 1) (by omega) ⟨s, pn, pb, vn, vb, u, s', k, h, n', t, q, xs⟩ xA xc).setCell (p := ⟨w.heap.size + 1 + 1 + 1 + 1, 0, none⟩) (by simp; omega) (.bool true)
        have H5 : ((In.put W (w.heap.size + 1 + 1 + 1) ⟨s, pn, pb, vn, vb, u, s', k, h, n', t, q, xs⟩ xA xc).setCell ⟨w.heap.size + 1 + 1 + 1 + 1, 0, none⟩ (.bool true)).heap[w.heap.size + 1 + 1 + 1 + 1 + 1]? = W.heap[w.heap.size + 1 + 1 + 1 + 1 + 1]? := ((Below.heap_setCell (In.put W (w.heap.size + 1 + 1 + 1) ⟨s, pn, pb, vn, vb, u, s', k, h, n', t, q, xs⟩ xA xc) ⟨w.heap.size + 1 + 1 + 1 + 1, 0, none⟩ (.bool true) _ (by simp)).trans (heap_put (w := W) (B := w.heap.size + 1 + 1 + 1) (by omega) ⟨s, pn, pb, vn, vb, u, s', k, h, n', t, q, xs⟩ xA xc)).trans (hb1.block _ (by omega))
        have m3 : Rx ((In.put W (w.heap.size + 1 + 1 + 1) ⟨s, pn, pb, vn, vb, u, s', k, h, n', t, q, xs⟩ xA xc).setCell ⟨w.heap.size + 1 + 1 + 1 + 1, 0, none⟩ (.bool true)) (w.heap.size + 1 + 1 + 1) ⟨s, pn, pb, vn, vb, u, s', k, h, n', t, q, xs⟩ xA xc := (n3.put ⟨s, pn, pb, vn, vb, u, s', k, h, n', t, q, xs⟩ xA xc).other (p := ⟨w.heap.size + 1 + 1 + 1 + 1, 0, none⟩) (by simp) (.bool true)
        have m4 : Boxed ((In.put W (w.heap.size + 1 + 1 + 1) ⟨s, pn, pb, vn, vb, u, s', k, h, n', t, q, xs⟩ xA xc).setCell ⟨w.heap.size + 1 + 1 + 1 + 1, 0, none⟩ (.bool true)) (w.heap.size + 1 + 1 + 1 + 1) 4 (.bool true) := Boxed.set (.bool true) (show Boxed (In.put W (w.heap.size + 1 + 1 + 1) ⟨s, pn, pb, vn, vb, u, s', k, h, n', t, q, xs⟩ xA xc) (w.heap.size + 1 + 1 + 1 + 1) 4 _ from (heap_put (w := W) (B := w.heap.size + 1 + 1 + 1) (by omega) ⟨s, pn, pb, vn, vb, u, s', k, h, n', t, q, xs⟩ xA xc).trans n4)
        have m1 : Boxed ((In.put W (w.heap.size + 1 + 1 + 1) ⟨s, pn, pb, vn, vb, u, s', k, h, n', t, q, xs⟩ xA xc).setCell ⟨w.heap.size + 1 + 1 + 1 + 1, 0, none⟩ (.bool true)) (w.heap.size + 1) 3 (.int .i64 s) := Boxed.other (show Boxed (In.put W (w.heap.size + 1 + 1 + 1) ⟨s, pn, pb, vn, vb, u, s', k, h, n', t, q, xs⟩ xA xc) (w.heap.size + 1) 3 _ from (heap_put (w := W) (B := w.heap.size + 1 + 1 + 1) (by omega) ⟨s, pn, pb, vn, vb, u, s', k, h, n', t, q, xs⟩ xA xc).trans n1) (by omega) (.bool true)
        have m2 : Rx ((In.put W (w.heap.size + 1 + 1 + 1) ⟨s, pn, pb, vn, vb, u, s', k, h, n', t, q, xs⟩ xA xc).setCell ⟨w.heap.size + 1 + 1 + 1 + 1, 0, none⟩ (.bool true)) (w.heap.size + 1 + 1) z0.r z0.A z0.c := (n2.past (B := w.heap.size + 1 + 1 + 1) (by omega) ⟨s, pn, pb, vn, vb, u, s', k, h, n', t, q, xs⟩ xA xc).other (p := ⟨w.heap.size + 1 + 1 + 1 + 1, 0, none⟩) (by simp) (.bool true)
        have hZ2 : w.heap.size + 6 ≤ ((In.put W (w.heap.size + 1 + 1 + 1) ⟨s, pn, pb, vn, vb, u, s', k, h, n', t, q, xs⟩ xA xc).setCell ⟨w.heap.size + 1 + 1 + 1 + 1, 0, none⟩ (.bool true)).heap.size := by have := hb1.size; simp; omega
        exact ⟨K1.from _, ⟨L1, H5⟩, ⟨⟨⟨by rw [hpx, E2.out]; exact m3, by rw [hpx, E2.out]; exact m4⟩, m1, m2⟩, hB.trans L1, hZ2⟩⟩
      · have hcv : cv2 ⟨xf, ⟨s, pn, pb, vn, vb, u, s', k, h, n', t, q, xs⟩, xA, xc⟩ y = Ba.cm vn vb y.r.vn y.r.vb := rfl
        rw [hg] at d3 d4 E
        have c4 := d4.cell
        simp only [Option.isSome_some, Option.getD_some] at c4 d3 d4
        obtain ⟨m0, m1, m2, m3, m4, m5, m6, m7, m8, m9, m10, m11, m12⟩ := d3.rb
        have HC : Hid (Calls Try.prog 36 #[bv vn vb, bv y.r.vn y.r.vb] W (Ba.IntPost W (Ba.cm vn vb y.r.vn y.r.vb))) := Ba.cmp_any vn vb y.r.vn y.r.vb W
        have HE : Hid (gx = if 0 < Ba.cm vn vb y.r.vn y.r.vb then some ⟨xf, ⟨s, pn, pb, vn, vb, u, s', k, h, n', t, q, xs⟩, xA, xc⟩ else some y) := by
          refine Lib.hid (E.out.trans ?_)
          show (if s = s ∧ 0 < cv2 _ y then _ else _) = _
          rw [hcv]
          simp
        clear E
        generalize Ba.cm vn vb y.r.vn y.r.vb = cz at *
        by_cases hc : 0 < cz
        · have E2 : Hid (gx = some ⟨xf, ⟨s, pn, pb, vn, vb, u, s', k, h, n', t, q, xs⟩, xA, xc⟩) := Lib.hid (HE.out.trans (if_pos hc))
          clear HE
          gi_wp2_with fail
          refine ⟨trivial, ?_⟩
          refine (CallsIn.inRound l (callsIn_wide.2 HC.out)).mono ?_
          rintro e w1 ⟨rfl, hb1⟩
          obtain ⟨v0, v1, v2, v3, v4, v5, v6, v7, v8, v9, v10, v11, v12⟩ := (bX.on hb1 bX.lt).rb
          obtain ⟨o0, o1, o2, o3, o4, o5, o6, o7, o8, o9, o10, o11, o12⟩ := (d3.on hb1 d3.lt).rb
          have q0 := (d3.on hb1 d3.lt).free 0
          have q1 := (d3.on hb1 d3.lt).free 1
          have q2 := (d3.on hb1 d3.lt).free 2
          have q3 := (d3.on hb1 d3.lt).free 3
          have q4 := (d3.on hb1 d3.lt).free 4
          have q5 := (d3.on hb1 d3.lt).free 5
          have q6 := (d3.on hb1 d3.lt).free 6
          have q7 := (d3.on hb1 d3.lt).free 7
          have q8 := (d3.on hb1 d3.lt).free 8
          have q9 := (d3.on hb1 d3.lt).free 9
          have q10 := (d3.on hb1 d3.lt).free 10
          have q11 := (d3.on hb1 d3.lt).free 11
          have q12 := (d3.on hb1 d3.lt).free 12
          have c4n := (show Boxed w1 _ 4 _ from (hb1.block _ d4.lt).trans d4).cell
          have f4n := (show Boxed w1 _ 4 _ from (hb1.block _ d4.lt).trans d4).frozen
          have szn := hb1.size
          gi_wp2
          have n3 : Rx w1 (w.heap.size + 1 + 1 + 1) _ _ _ := d3.on hb1 d3.lt
          have n4 : Boxed w1 (w.heap.size + 1 + 1 + 1 + 1) 4 _ := (hb1.block _ d4.lt).trans d4
          have n1 : Boxed w1 (w.heap.size + 1) 3 _ := (hb1.block _ d1.lt).trans d1
          have n2 : Rx w1 (w.heap.size + 1 + 1) _ _ _ := d2.on hb1 d2.lt
          have hbD : Below w.heap.size W w1 := hb1.mono hsW
          have K1 : KeepsOthers w1 ((In.put w1 (w.heap.size + 1 + 1 + 1) ⟨s, pn, pb, vn, vb, u, s', k, h, n', t, q, xs⟩ xA xc).setCell ⟨w.heap.size + 1 + 1 + 1 + 1, 0, none⟩ (.bool true)) := (keeps_put w1 (w.heap.size + 1 + 1 + 1) ⟨s, pn, pb, vn, vb, u, s', k, h, n', t, q, xs⟩ xA xc).trans (KeepsOthers.setCell (In.put w1 (w.heap.size + 1 + 1 + 1) ⟨s, pn, pb, vn, vb, u, s', k, h, n', t, q, xs⟩ xA xc) ⟨w.heap.size + 1 + 1 + 1 + 1, 0, none⟩ (.bool true))
          have L1 : Below w.heap.size W ((In.put w1 (w.heap.size + 1 + 1 + 1) ⟨s, pn, pb, vn, vb, u, s', k, h, n', t, q, xs⟩ xA xc).setCell ⟨w.heap.size + 1 + 1 + 1 + 1, 0, none⟩ (.bool true)) := (below_put hbD (B := w.heap.size + 1 + 1 + 1) (by omega) ⟨s, pn, pb, vn, vb, u, s', k, h, n', t, q, xs⟩ xA xc).setCell (p := ⟨w.heap.size + 1 + 1 + 1 + 1, 0, none⟩) (by simp; omega) (.bool true)
          have H5 : ((In.put w1 (w.heap.size + 1 + 1 + 1) ⟨s, pn, pb, vn, vb, u, s', k, h, n', t, q, xs⟩ xA xc).setCell ⟨w.heap.size + 1 + 1 + 1 + 1, 0, none⟩ (.bool true)).heap[w.heap.size + 1 + 1 + 1 + 1 + 1]? = W.heap[w.heap.size + 1 + 1 + 1 + 1 + 1]? := ((Below.heap_setCell (In.put w1 (w.heap.size + 1 + 1 + 1) ⟨s, pn, pb, vn, vb, u, s', k, h, n', t, q, xs⟩ xA xc) ⟨w.heap.size + 1 + 1 + 1 + 1, 0, none⟩ (.bool true) _ (by simp)).trans (heap_put (w := w1) (B := w.heap.size + 1 + 1 + 1) (by omega) ⟨s, pn, pb, vn, vb, u, s', k, h, n', t, q, xs⟩ xA xc)).trans (hb1.block _ (by omega))
          have m3 : Rx ((In.put w1 (w.heap.size + 1 + 1 + 1) ⟨s, pn, pb, vn, vb, u, s', k, h, n', t, q, xs⟩ xA xc).setCell ⟨w.heap.size + 1 + 1 + 1 + 1, 0, none⟩ (.bool true)) (w.heap.size + 1 + 1 + 1) ⟨s, pn, pb, vn, vb, u, s', k, h, n', t, q, xs⟩ xA xc := (n3.put ⟨s, pn, pb, vn, vb, u, s', k, h, n', t, q, xs⟩ xA xc).other (p := ⟨w.heap.size + 1 + 1 + 1 + 1, 0, none⟩) (by simp) (.bool true)
          have m4 : Boxed ((In.put w1 (w.heap.size + 1 + 1 + 1) ⟨s, pn, pb, vn, vb, u, s', k, h, n', t, q, xs⟩ xA xc).setCell ⟨w.heap.size + 1 + 1 + 1 + 1, 0, none⟩ (.bool true)) (w.heap.size + 1 + 1 + 1 + 1) 4 (.bool true) := Boxed.set (.bool true) (show Boxed (In.put w1 (w.heap.size + 1 + 1 + 1) ⟨s, pn, pb, vn, vb, u, s', k, h, n', t, q, xs⟩ xA xc) (w.heap.size + 1 + 1 + 1 + 1) 4 _ from (heap_put (w := w1) (B := w.heap.size + 1 + 1 + 1) (by omega) ⟨s, pn, pb, vn, vb, u, s', k, h, n', t, q, xs⟩ xA xc).trans n4)
          have m1 : Boxed ((In.put w1 (w.heap.size + 1 + 1 + 1) ⟨s, pn, pb, vn, vb, u, s', k, h, n', t, q, xs⟩ xA xc).setCell ⟨w.heap.size + 1 + 1 + 1 + 1, 0, none⟩ (.bool true)) (w.heap.size + 1) 3 (.int .i64 s) := Boxed.other (show Boxed (In.put w1 (w.heap.size + 1 + 1 + 1) ⟨s, pn, pb, vn, vb, u, s', k, h, n', t, q, xs⟩ xA xc) (w.heap.size + 1) 3 _ from (heap_put (w := w1) (B := w.heap.size + 1 + 1 + 1) (by omega) ⟨s, pn, pb, vn, vb, u, s', k, h, n', t, q, xs⟩ xA xc).trans n1) (by omega) (.bool true)
          have m2 : Rx ((In.put w1 (w.heap.size + 1 + 1 + 1) ⟨s, pn, pb, vn, vb, u, s', k, h, n', t, q, xs⟩ xA xc).setCell ⟨w.heap.size + 1 + 1 + 1 + 1, 0, none⟩ (.bool true)) (w.heap.size + 1 + 1) z0.r z0.A z0.c := (n2.past (B := w.heap.size + 1 + 1 + 1) (by omega) ⟨s, pn, pb, vn, vb, u, s', k, h, n', t, q, xs⟩ xA xc).other (p := ⟨w.heap.size + 1 + 1 + 1 + 1, 0, none⟩) (by simp) (.bool true)
          have hZ2 : w.heap.size + 6 ≤ ((In.put w1 (w.heap.size + 1 + 1 + 1) ⟨s, pn, pb, vn, vb, u, s', k, h, n', t, q, xs⟩ xA xc).setCell ⟨w.heap.size + 1 + 1 + 1 + 1, 0, none⟩ (.bool true)).heap.size := by have := hb1.size; simp; omega
          exact ⟨(keepsFrom_of hb1).trans (K1.from _), ⟨L1, H5⟩, ⟨⟨⟨by rw [hpx, E2.out]; exact m3, by rw [hpx, E2.out]; exact m4⟩, m1, m2⟩, hB.trans L1, hZ2⟩⟩
        · have E2 : Hid (gx = some y) := Lib.hid (HE.out.trans (if_neg hc))
          clear HE
          gi_wp2_with fail
          refine ⟨trivial, ?_⟩
          refine (CallsIn.inRound l (callsIn_wide.2 HC.out)).mono ?_
          rintro e w1 ⟨rfl, hb1⟩
          obtain ⟨v0, v1, v2, v3, v4, v5, v6, v7, v8, v9, v10, v11, v12⟩ := (bX.on hb1 bX.lt).rb
          obtain ⟨o0, o1, o2, o3, o4, o5, o6, o7, o8, o9, o10, o11, o12⟩ := (d3.on hb1 d3.lt).rb
          have q0 := (d3.on hb1 d3.lt).free 0
          have q1 := (d3.on hb1 d3.lt).free 1
          have q2 := (d3.on hb1 d3.lt).free 2
          have q3 := (d3.on hb1 d3.lt).free 3
          have q4 := (d3.on hb1 d3.lt).free 4
          have q5 := (d3.on hb1 d3.lt).free 5
          have q6 := (d3.on hb1 d3.lt).free 6
          have q7 := (d3.on hb1 d3.lt).free 7
          have q8 := (d3.on hb1 d3.lt).free 8
          have q9 := (d3.on hb1 d3.lt).free 9
          have q10 := (d3.on hb1 d3.lt).free 10
          have q11 := (d3.on hb1 d3.lt).free 11
          have q12 := (d3.on hb1 d3.lt).free 12
          have c4n := (show Boxed w1 _ 4 _ from (hb1.block _ d4.lt).trans d4).cell
          have f4n := (show Boxed w1 _ 4 _ from (hb1.block _ d4.lt).trans d4).frozen
          have szn := hb1.size
          gi_wp2
          exact ⟨keepsFrom_of hb1, ⟨hb1.mono hsW, hb1.block _ (by omega)⟩, ⟨⟨⟨by rw [hpx, E2.out]; exact (d3.on hb1 d3.lt), by rw [hpx, E2.out]; exact ((hb1.block _ d4.lt).trans d4)⟩, ((hb1.block _ d1.lt).trans d1), (d2.on hb1 d2.lt)⟩, hB.trans (hb1.mono hsW), Nat.le_trans hZ hb1.size⟩⟩
    · have E2 : Hid (gx = gv s pre) := by
        refine Lib.hid (E.out.trans ?_)
        rcases gv s pre with _ | y
        · exact if_neg (fun e => hst e.symm)
        · exact if_neg (fun e => hst e.1.symm)
      clear E
      have hst2 : ¬ st = s := fun e => hst e.symm
      have hst3 : (st == s) = false := by simpa using hst2
      clear hst
      generalize hy : gv s pre = gy at *
      have c4 := d4.cell
      gi_wp2
      · rename_i h1 h2
        cases h1
      · rename_i h1 h2
        cases h1
      · refine ⟨trivial, ?_⟩
        gi_wp2
        exact ⟨KeepsFrom.refl _ _, ⟨Below.refl _ _, rfl⟩, ⟨⟨⟨by rw [hpx, E2.out]; exact d3, by rw [hpx, E2.out]; exact d4⟩, d1, d2⟩, hB, hZ⟩⟩
  case done =>
    rintro D ys W hD rfl ⟨⟨⟨d3, d4⟩, d1, d2⟩, hB, hZ⟩ hK
    rw [gv_all] at d3 d4
    generalize gt s (ct L n) = gx at *
    obtain ⟨x0, x1, x2, x3, x4, x5, x6, x7, x8, x9, x10, x11, x12⟩ := d3.rb
    have c4 := d4.cell
    obtain ⟨y0, y1, y2, y3, y4, y5, y6, y7, y8, y9, y10, y11, y12⟩ := d2.rb
    have g0 := d2.free 0
    have g1 := d2.free 1
    have g2 := d2.free 2
    have g3 := d2.free 3
    have g4 := d2.free 4
    have g5 := d2.free 5
    have g6 := d2.free 6
    have g7 := d2.free 7
    have g8 := d2.free 8
    have g9 := d2.free 9
    have g10 := d2.free 10
    have g11 := d2.free 11
    have g12 := d2.free 12
    have l2 := d2.lt
    have l3 := d3.lt
    have l4 := d4.lt
    gi_wp2
    gi_region
    gi_wp2
    have hK' := ((keeps_put W (w.heap.size + 1 + 1) (gx.getD z0).r (gx.getD z0).A (gx.getD z0).c).trans (KeepsOthers.drew _)).same D _ hK rfl
    refine ⟨by simp, .inl ⟨_, _, rfl, run_takeDeferred hK', ?_⟩⟩
    have dR : Rx ((In.put W (w.heap.size + 1 + 1) (gx.getD z0).r (gx.getD z0).A (gx.getD z0).c).drew) (w.heap.size + 1 + 1) (gx.getD z0).r (gx.getD z0).A (gx.getD z0).c := rx_drew (d2.put (gx.getD z0).r (gx.getD z0).A (gx.getD z0).c)
    have bR := dR.kept hK' rfl (.deferred none)
    refine ⟨_, two_gr (by rfl) (by rfl) bR, rfl, ?_⟩
    exact hB.trans (((below_put (Below.refl w.heap.size W) (B := w.heap.size + 1 + 1) (by omega) (gx.getD z0).r (gx.getD z0).A (gx.getD z0).c).drew).trans (belowK_b (w := w) (Nat.le_refl _) _ D _ _ (by omega) hK' rfl rfl))
  case stop =>
    rintro D c pre W _ _ h _
    exact h.elim

end Go.Proofs.Ytgmfjoegfbaebaa.Rg
