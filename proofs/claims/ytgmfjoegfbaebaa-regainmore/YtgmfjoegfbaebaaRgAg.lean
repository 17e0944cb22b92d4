/-
  The walk of heard.agreed. Conditions: at most 200 reports, at most 7 replicas.
-/
import Derived.Test.YtgmfjoegfbaebaaRgDn
namespace Go.Proofs.Ytgmfjoegfbaebaa.Rg
open Go.RowKit Go.Shelf In
set_option linter.unusedVariables false
attribute [local go_sem] Oper.semAt_some

theorem run_agreed {V : World} {tm : Array Value} {B B' : Nat} {r : Rd} {A : Option Addr} {c : Nat} {b : Bool} (h2 : tm[2]?.getD undef = .pointer (some ⟨B, 0, none⟩)) (h3 : tm[3]?.getD undef = .pointer (some ⟨B', 0, none⟩)) (hb : Rb V B r A c) (hd : Boxed V B' 4 (.bool b)) :
    (results Try.f30 tm).run Try.prog V = .ok (.tuple #[rv r A c, .bool b]) V := by
  obtain ⟨c0, c1, c2, c3, c4, c5, c6, c7, c8, c9, c10, c11, c12⟩ := hb
  have d := hd.cell
  simp [results, Try.f30, go_sem, h2, h3, c0, c1, c2, c3, c4, c5, c6, c7, c8, c9, c10, c11, c12, d]
def vs {L : List Rp} (pre : List (Of L)) : List Rp := pre.map (·.1)
theorem vs_snoc {L : List Rp} (pre : List (Of L)) (x : Of L) : vs (pre ++ [x]) = vs pre ++ [x.1] := by simp [vs]
theorem vs_all (L : List Rp) (n : Nat) : vs (cta L n) = ct L n := cta_val L n
theorem vs_pre {L : List Rp} {pre all : List (Of L)} (h : pre <+: all) : ∃ q, vs all = vs pre ++ q := by
  obtain ⟨t, rfl⟩ := h
  exact ⟨t.map (·.1), by simp [vs]⟩
theorem boxed_drew {W : World} {B : Nat} {t : TypeId} {v : Value} (h : Boxed W B t v) : Boxed W.drew B t v := h
theorem ag_cons (o : Int) (x : Rp) (t : List Rp) : ag o (x :: t) = if fi o x.r = true ∧ ∀ y ∈ t, fi o y.r = true ∧ sm y.r x.r = true then some x else none := rfl
theorem ag_yes {o : Int} {p : List Rp} {y : Rp} (h : ag o p = p.head?) (h1 : fi o y.r = true) (h2 : ∀ x, p.head? = some x → sm y.r x.r = true) : ag o (p ++ [y]) = (p ++ [y]).head? := by
  rcases p with _ | ⟨x, t⟩
  · simp [ag, h1]
  · have h3 := h2 x rfl
    rw [ag_cons] at h
    split at h
    · rename_i hc
      show ag o (x :: (t ++ [y])) = some x
      rw [ag_cons]
      rw [if_pos]
      refine ⟨hc.1, fun z hz => ?_⟩
      rcases List.mem_append.1 hz with hz | hz
      · exact hc.2 z hz
      · obtain rfl : z = y := by simpa using hz
        exact ⟨h1, h3⟩
    · cases h
theorem ag_no_first {o : Int} {p : List Rp} {y : Rp} (h1 : fi o y.r = false) (q : List Rp) : ag o (p ++ [y] ++ q) = none := by
  rcases p with _ | ⟨x, t⟩
  · show ag o (y :: q) = none
    rw [ag_cons]
    rw [if_neg]
    rw [h1]
    simp
  · show ag o (x :: (t ++ [y] ++ q)) = none
    rw [ag_cons]
    rw [if_neg]
    intro hc
    have := (hc.2 y (by simp)).1
    rw [h1] at this
    cases this
theorem ag_no_same {o : Int} {p : List Rp} {x y : Rp} (hx : p.head? = some x) (h2 : sm y.r x.r = false) (q : List Rp) : ag o (p ++ [y] ++ q) = none := by
  rcases p with _ | ⟨x', t⟩
  · cases hx
  · obtain rfl : x' = x := by simpa using hx
    show ag o (x' :: (t ++ [y] ++ q)) = none
    rw [ag_cons]
    rw [if_neg]
    intro hc
    have := (hc.2 y (by simp)).2
    rw [h2] at this
    cases this

set_option maxRecDepth 100000 in
set_option maxHeartbeats 1000000 in
theorem agreed_any (n : Nat) (h7 : n ≤ 7) (o : Int) (A : Option Addr) (c : Nat) (L : List Rp) (hl : Few L) (w : World) (hs : Ls w w.heap.size A L) :
    Calls Try.prog 30 #[hv n o A L.length c] w (RcP w (ag o (ct L n))) := by
  refine (callsIn_wide (n := 6)).1 ?_
  refine callsIn_of_wp_marks Try.func30 rfl trivial ?_ rfl
  simp only [Try.ntmps30, List.size_toArray, List.length_cons, List.length_nil, Nat.reduceAdd, Nat.reduceSub, Array.replicate_succ, Array.replicate_zero, List.push_toArray, List.append_toArray, List.nil_append, List.cons_append]
  gi_wp2_with fail
  refine ⟨trivial, ?_⟩
  refine (callsIn_wide.2 (counting_any n o A L.length c _)).mono ?_
  rintro e w' ⟨rfl, rfl⟩
  gi_wp2
  have b0 := (lay_old (lay_old (lay_old (lay_old (lay_old (heap_alloc_new w (.cells #[.int .i64 (n : Int), .int .i64 o, .slice A L.length c] 48)) (.cells #[.int .i64 0, .int .i64 0, .int .i64 0, .int .i64 0, .int .i64 0, .int .i64 0, .int .i64 0, .int .i64 0, .int .i64 0, .int .i64 0, .string ⟨#[]⟩, .int .i64 0, .slice none 0 0] 42)) (.cells #[.bool false] 4)) (.cells #[.int .i64 0, .int .i64 0, .int .i64 0, .int .i64 0, .int .i64 0, .int .i64 0, .int .i64 0, .int .i64 0, .int .i64 0, .int .i64 0, .string ⟨#[]⟩, .int .i64 0, .slice none 0 0] 42)) (.cells #[.bool false] 4)) (.cells #[.int .i64 (n : Int), .int .i64 o, .slice A L.length c] 48))
  have b1 := (lay_old (lay_old (lay_old (lay_old (heap_alloc_new (w.alloc (.cells #[.int .i64 (n : Int), .int .i64 o, .slice A L.length c] 48)) (.cells #[.int .i64 0, .int .i64 0, .int .i64 0, .int .i64 0, .int .i64 0, .int .i64 0, .int .i64 0, .int .i64 0, .int .i64 0, .int .i64 0, .string ⟨#[]⟩, .int .i64 0, .slice none 0 0] 42)) (.cells #[.bool false] 4)) (.cells #[.int .i64 0, .int .i64 0, .int .i64 0, .int .i64 0, .int .i64 0, .int .i64 0, .int .i64 0, .int .i64 0, .int .i64 0, .int .i64 0, .string ⟨#[]⟩, .int .i64 0, .slice none 0 0] 42)) (.cells #[.bool false] 4)) (.cells #[.int .i64 (n : Int), .int .i64 o, .slice A L.length c] 48))
  have b2 := (lay_old (lay_old (lay_old (heap_alloc_new ((w.alloc (.cells #[.int .i64 (n : Int), .int .i64 o, .slice A L.length c] 48)).alloc (.cells #[.int .i64 0, .int .i64 0, .int .i64 0, .int .i64 0, .int .i64 0, .int .i64 0, .int .i64 0, .int .i64 0, .int .i64 0, .int .i64 0, .string ⟨#[]⟩, .int .i64 0, .slice none 0 0] 42)) (.cells #[.bool false] 4)) (.cells #[.int .i64 0, .int .i64 0, .int .i64 0, .int .i64 0, .int .i64 0, .int .i64 0, .int .i64 0, .int .i64 0, .int .i64 0, .int .i64 0, .string ⟨#[]⟩, .int .i64 0, .slice none 0 0] 42)) (.cells #[.bool false] 4)) (.cells #[.int .i64 (n : Int), .int .i64 o, .slice A L.length c] 48))
  have b3 := (lay_old (lay_old (heap_alloc_new (((w.alloc (.cells #[.int .i64 (n : Int), .int .i64 o, .slice A L.length c] 48)).alloc (.cells #[.int .i64 0, .int .i64 0, .int .i64 0, .int .i64 0, .int .i64 0, .int .i64 0, .int .i64 0, .int .i64 0, .int .i64 0, .int .i64 0, .string ⟨#[]⟩, .int .i64 0, .slice none 0 0] 42)).alloc (.cells #[.bool false] 4)) (.cells #[.int .i64 0, .int .i64 0, .int .i64 0, .int .i64 0, .int .i64 0, .int .i64 0, .int .i64 0, .int .i64 0, .int .i64 0, .int .i64 0, .string ⟨#[]⟩, .int .i64 0, .slice none 0 0] 42)) (.cells #[.bool false] 4)) (.cells #[.int .i64 (n : Int), .int .i64 o, .slice A L.length c] 48))
  have b4 := (lay_old (heap_alloc_new ((((w.alloc (.cells #[.int .i64 (n : Int), .int .i64 o, .slice A L.length c] 48)).alloc (.cells #[.int .i64 0, .int .i64 0, .int .i64 0, .int .i64 0, .int .i64 0, .int .i64 0, .int .i64 0, .int .i64 0, .int .i64 0, .int .i64 0, .string ⟨#[]⟩, .int .i64 0, .slice none 0 0] 42)).alloc (.cells #[.bool false] 4)).alloc (.cells #[.int .i64 0, .int .i64 0, .int .i64 0, .int .i64 0, .int .i64 0, .int .i64 0, .int .i64 0, .int .i64 0, .int .i64 0, .int .i64 0, .string ⟨#[]⟩, .int .i64 0, .slice none 0 0] 42)) (.cells #[.bool false] 4)) (.cells #[.int .i64 (n : Int), .int .i64 o, .slice A L.length c] 48))
  have b5 := (heap_alloc_new (((((w.alloc (.cells #[.int .i64 (n : Int), .int .i64 o, .slice A L.length c] 48)).alloc (.cells #[.int .i64 0, .int .i64 0, .int .i64 0, .int .i64 0, .int .i64 0, .int .i64 0, .int .i64 0, .int .i64 0, .int .i64 0, .int .i64 0, .string ⟨#[]⟩, .int .i64 0, .slice none 0 0] 42)).alloc (.cells #[.bool false] 4)).alloc (.cells #[.int .i64 0, .int .i64 0, .int .i64 0, .int .i64 0, .int .i64 0, .int .i64 0, .int .i64 0, .int .i64 0, .int .i64 0, .int .i64 0, .string ⟨#[]⟩, .int .i64 0, .slice none 0 0] 42)).alloc (.cells #[.bool false] 4)) (.cells #[.int .i64 (n : Int), .int .i64 o, .slice A L.length c] 48))
  have B0 : Below w.heap.size w ((((((w.alloc (.cells #[.int .i64 (n : Int), .int .i64 o, .slice A L.length c] 48)).alloc (.cells #[.int .i64 0, .int .i64 0, .int .i64 0, .int .i64 0, .int .i64 0, .int .i64 0, .int .i64 0, .int .i64 0, .int .i64 0, .int .i64 0, .string ⟨#[]⟩, .int .i64 0, .slice none 0 0] 42)).alloc (.cells #[.bool false] 4)).alloc (.cells #[.int .i64 0, .int .i64 0, .int .i64 0, .int .i64 0, .int .i64 0, .int .i64 0, .int .i64 0, .int .i64 0, .int .i64 0, .int .i64 0, .string ⟨#[]⟩, .int .i64 0, .slice none 0 0] 42)).alloc (.cells #[.bool false] 4)).alloc (.cells #[.int .i64 (n : Int), .int .i64 o, .slice A L.length c] 48)) := (((((((Below.refl w.heap.size w).alloc (Nat.le_refl _) _).alloc (by simp) _).alloc (by simp; omega) _).alloc (by simp; omega) _).alloc (by simp; omega) _).alloc (by simp; omega) _)
  have sz : ((((((w.alloc (.cells #[.int .i64 (n : Int), .int .i64 o, .slice A L.length c] 48)).alloc (.cells #[.int .i64 0, .int .i64 0, .int .i64 0, .int .i64 0, .int .i64 0, .int .i64 0, .int .i64 0, .int .i64 0, .int .i64 0, .int .i64 0, .string ⟨#[]⟩, .int .i64 0, .slice none 0 0] 42)).alloc (.cells #[.bool false] 4)).alloc (.cells #[.int .i64 0, .int .i64 0, .int .i64 0, .int .i64 0, .int .i64 0, .int .i64 0, .int .i64 0, .int .i64 0, .int .i64 0, .int .i64 0, .string ⟨#[]⟩, .int .i64 0, .slice none 0 0] 42)).alloc (.cells #[.bool false] 4)).alloc (.cells #[.int .i64 (n : Int), .int .i64 o, .slice A L.length c] 48)).heap.size = w.heap.size + 6 := by simp
  simp only [World.size_alloc] at b0 b1 b2 b3 b4 b5
  obtain ⟨W0, hW0⟩ : ∃ W0, ((((((w.alloc (.cells #[.int .i64 (n : Int), .int .i64 o, .slice A L.length c] 48)).alloc (.cells #[.int .i64 0, .int .i64 0, .int .i64 0, .int .i64 0, .int .i64 0, .int .i64 0, .int .i64 0, .int .i64 0, .int .i64 0, .int .i64 0, .string ⟨#[]⟩, .int .i64 0, .slice none 0 0] 42)).alloc (.cells #[.bool false] 4)).alloc (.cells #[.int .i64 0, .int .i64 0, .int .i64 0, .int .i64 0, .int .i64 0, .int .i64 0, .int .i64 0, .int .i64 0, .int .i64 0, .int .i64 0, .string ⟨#[]⟩, .int .i64 0, .slice none 0 0] 42)).alloc (.cells #[.bool false] 4)).alloc (.cells #[.int .i64 (n : Int), .int .i64 o, .slice A L.length c] 48)) = W0 := ⟨_, rfl⟩
  rw [hW0] at b0 b1 b2 b3 b4 b5 B0 sz ⊢
  clear hW0
  refine wpIn_rangeFunc_ownH rfl (by omega) (gf := 40) (lb := #[.pointer (some ⟨w.heap.size + 1 + 1 + 1 + 1 + 1, 0, none⟩)]) rfl trivial (enters_of Try.func40 (by kernel_rfl) rfl)
    (stops (6 - 1) (by omega) (w.heap.size + 1 + 1 + 1 + 1 + 1) w.heap.size n h7 o A c L hl.1 W0 b5 (hs.below B0) B0.size) kq_t (kq_b (by omega) (by omega)) (Below.refl _ _) (fun _ => rfl)
    (fun pre W => (ag o (vs pre) = (vs pre).head? ∧ ((Rx W (w.heap.size + 1) z0.r z0.A z0.c ∧ Boxed W (w.heap.size + 1 + 1) 4 (.bool false)) ∧ ((Rx W (w.heap.size + 1 + 1 + 1) ((vs pre).head?.getD z0).r ((vs pre).head?.getD z0).A ((vs pre).head?.getD z0).c ∧ Boxed W (w.heap.size + 1 + 1 + 1 + 1) 4 (.bool (vs pre).head?.isSome)) ∧ Hx W w.heap.size n o A L.length c))) ∧ (Below w.heap.size w W ∧ w.heap.size + 6 ≤ W.heap.size))
    (fun e pre W => ((e = .ret ∧ ∀ q, ag o (vs pre ++ q) = none) ∧ (Rx W (w.heap.size + 1) z0.r z0.A z0.c ∧ Boxed W (w.heap.size + 1 + 1) 4 (.bool false))) ∧ (Below w.heap.size w W ∧ w.heap.size + 6 ≤ W.heap.size))
    (OwnFrom.and (OwnFrom.and (ownFrom_pure _ _) (OwnFrom.and (OwnFrom.and (Own.from (lay_own _ _ _) _) (Own.from (boxed_own _ _ _) _)) (OwnFrom.and (OwnFrom.and (Own.from (lay_own _ _ _) _) (Own.from (boxed_own _ _ _) _)) (Own.from (lay_own _ _ _) _)))) (OwnFrom.and (ownFrom_below (Nat.le_refl _) (by omega)) (size_own _ _)))
    (fun e => OwnFrom.and (OwnFrom.and (ownFrom_pure _ _) (OwnFrom.and (Own.from (lay_own _ _ _) _) (Own.from (boxed_own _ _ _) _))) (OwnFrom.and (ownFrom_below (Nat.le_refl _) (by omega)) (size_own _ _)))
    ⟨⟨rfl, ⟨zr_box b1, b2⟩, ⟨zr_box b3, b4⟩, b0⟩, B0, by omega⟩
    (fun x a' W => ∃ Bx, w.heap.size + 5 < Bx ∧ Rx W Bx x.1.r x.1.A x.1.c ∧ a' = { tmps := #[hv n o A L.length c, .pointer (some ⟨w.heap.size, 0, none⟩), .pointer (some ⟨w.heap.size + 1, 0, none⟩), .pointer (some ⟨w.heap.size + 1 + 1, 0, none⟩), .pointer (some ⟨w.heap.size + 1 + 1 + 1, 0, none⟩), .pointer (some ⟨w.heap.size + 1 + 1 + 1 + 1, 0, none⟩), .pointer (some ⟨Bx, 0, none⟩), .agg #[.int .i64 0, .int .i64 0, .int .i64 0, .int .i64 0, .int .i64 0, .int .i64 0, .int .i64 0, .int .i64 0, .int .i64 0, .int .i64 0, .string ⟨#[]⟩, .int .i64 0, .slice none 0 0], hv n o A L.length c, .func (.func 40) #[] #[.pointer (some ⟨w.heap.size + 1 + 1 + 1 + 1 + 1, 0, none⟩)], rr x.1, undef, undef, undef, undef, undef, undef, undef, undef, undef, undef, undef, undef, undef, undef, undef, undef, undef, undef, undef], defers := [] })
    (fun x a' _ X Y row hs hg hr => by obtain ⟨Bx, h1, h2, h3⟩ := hs; exact ⟨Bx, h1, lay_own Bx 42 (fun (_ : Unit) => rcs x.1.r x.1.A x.1.c) () X Y row h2 hg (fun r e => (hr r e).2), h3⟩)
    ?assign ?body ?done ?stop
  case assign =>
    rintro l pre x W K ⟨⟨hd, ⟨d1, d2⟩, ⟨d3, d4⟩, d0⟩, hB, hZ⟩ hK
    have hsW := hB.size
    gi_wp2
    exact hK _ _ ((KeepsOthers.alloc _ _).from _) ⟨(Below.refl _ W).alloc hsW _, heap_alloc_old W _ (by omega)⟩ ⟨⟨hd, ⟨d1.old _, d2.alloc _⟩, ⟨d3.old _, d4.alloc _⟩, d0.old _⟩, hB.alloc hsW _, by simp; omega⟩ ⟨W.heap.size, by omega, rx_new W x.1.r x.1.A x.1.c, rfl⟩
  case body =>
    rintro l pre x a' W hlw ⟨r, hr⟩ ⟨⟨hd, ⟨d1, d2⟩, ⟨d3, d4⟩, d0⟩, hB, hZ⟩ ⟨Bx, hBx, bX, rfl⟩ hlt
    have hsW := hB.size
    have E := Lib.hid (vs_snoc pre x)
    generalize hpx : vs (pre ++ [x]) = gx at *
    obtain ⟨⟨xf, ⟨st, pn, pb, vn, vb, u, s', k, h, n', t, q, xs⟩, xA, xc⟩, hx⟩ := x
    have SX := Lib.hid (((hs.below hB).of hx).mono hsW)
    have LX := Lib.hid (hl.2 _ hx)
    have HP := Lib.hid (fun y (hy : y ∈ vs pre) => show y ∈ L by obtain ⟨z, _, rfl⟩ := List.mem_map.1 hy; exact z.2)
    have HD := Lib.hid hd
    clear hd
    dsimp only at E bX SX LX ⊢
    generalize hvp : vs pre = p at *
    clear hvp
    obtain ⟨x0, x1, x2, x3, x4, x5, x6, x7, x8, x9, x10, x11, x12⟩ := bX.rb
    obtain ⟨g0, g1, g2⟩ := d0.cells
    have HF : Hid (Calls Try.prog 37 #[hv n o A L.length c, rv ⟨st, pn, pb, vn, vb, u, s', k, h, n', t, q, xs⟩ xA xc] W (BoolPost W (fi o ⟨st, pn, pb, vn, vb, u, s', k, h, n', t, q, xs⟩))) := isFirst_any n o A L.length c ⟨st, pn, pb, vn, vb, u, s', k, h, n', t, q, xs⟩ xA xc W
    rcases hf : fi o ⟨st, pn, pb, vn, vb, u, s', k, h, n', t, q, xs⟩ with _ | _
    · have NO := Lib.hid (fun (qq : List Rp) => ag_no_first (o := o) (p := p) (y := ⟨xf, ⟨st, pn, pb, vn, vb, u, s', k, h, n', t, q, xs⟩, xA, xc⟩) hf qq)
      rw [hf] at HF
      gi_wp2_with fail
      refine ⟨trivial, ?_⟩
      refine (CallsIn.inRound l (callsIn_wide.2 (HF).out)).mono ?_
      rintro e w1 ⟨rfl, hbW⟩
      have m1 : Rx w1 (w.heap.size + 1) z0.r z0.A z0.c := d1.on hbW d1.lt
      have m2 : Boxed w1 (w.heap.size + 1 + 1) 4 (.bool false) := (hbW.block _ d2.lt).trans d2
      have m3 : Rx w1 (w.heap.size + 1 + 1 + 1) _ _ _ := d3.on hbW d3.lt
      have m4 : Boxed w1 (w.heap.size + 1 + 1 + 1 + 1) 4 _ := (hbW.block _ d4.lt).trans d4
      have m0 : Hx w1 w.heap.size n o A L.length c := d0.on hbW d0.lt
      have mX : Rx w1 Bx ⟨st, pn, pb, vn, vb, u, s', k, h, n', t, q, xs⟩ xA xc := bX.on hbW bX.lt
      obtain ⟨x0, x1, x2, x3, x4, x5, x6, x7, x8, x9, x10, x11, x12⟩ := mX.rb
      obtain ⟨o0, o1, o2, o3, o4, o5, o6, o7, o8, o9, o10, o11, o12⟩ := m3.rb
      obtain ⟨t0, t1, t2, t3, t4, t5, t6, t7, t8, t9, t10, t11, t12⟩ := m1.rb
      obtain ⟨g0, g1, g2⟩ := m0.cells
      have q0 := m1.free 0
      have q1 := m1.free 1
      have q2 := m1.free 2
      have q3 := m1.free 3
      have q4 := m1.free 4
      have q5 := m1.free 5
      have q6 := m1.free 6
      have q7 := m1.free 7
      have q8 := m1.free 8
      have q9 := m1.free 9
      have q10 := m1.free 10
      have q11 := m1.free 11
      have q12 := m1.free 12
      have y0 := m3.free 0
      have y1 := m3.free 1
      have y2 := m3.free 2
      have y3 := m3.free 3
      have y4 := m3.free 4
      have y5 := m3.free 5
      have y6 := m3.free 6
      have y7 := m3.free 7
      have y8 := m3.free 8
      have y9 := m3.free 9
      have y10 := m3.free 10
      have y11 := m3.free 11
      have y12 := m3.free 12
      have c2 := m2.cell
      have f2 := m2.frozen
      have c4 := m4.cell
      have f4 := m4.frozen
      clear HD HP SX LX
      gi_wp2
      all_goals (first | (rename_i h1 h2; cases h1; done) | (rename_i h1 h2 h3; cases h1; done) | (rename_i h1 h2 h3 h4; cases h1; done) | skip)
      refine ⟨trivial, ?_⟩
      gi_wp2
      all_goals (first | (rename_i h1 h2; cases h1; done) | (rename_i h1 h2 h3; cases h1; done) | (rename_i h1 h2 h3 h4; cases h1; done) | skip)
      have K1 := (keeps_put w1 (w.heap.size + 1) z0.r z0.A z0.c).trans (KeepsOthers.setCell (In.put w1 (w.heap.size + 1) z0.r z0.A z0.c) ⟨w.heap.size + 1 + 1, 0, none⟩ (.bool false))
      have L1 : Below w.heap.size W ((In.put w1 (w.heap.size + 1) z0.r z0.A z0.c).setCell ⟨w.heap.size + 1 + 1, 0, none⟩ (.bool false)) := (below_put (hbW.mono hsW) (B := w.heap.size + 1) (by omega) z0.r z0.A z0.c).setCell (p := ⟨w.heap.size + 1 + 1, 0, none⟩) (by simp; omega) (.bool false)
      have k1 : Rx ((In.put w1 (w.heap.size + 1) z0.r z0.A z0.c).setCell ⟨w.heap.size + 1 + 1, 0, none⟩ (.bool false)) (w.heap.size + 1) z0.r z0.A z0.c := (m1.put z0.r z0.A z0.c).other (p := ⟨w.heap.size + 1 + 1, 0, none⟩) (by simp) (.bool false)
      have k2 : Boxed ((In.put w1 (w.heap.size + 1) z0.r z0.A z0.c).setCell ⟨w.heap.size + 1 + 1, 0, none⟩ (.bool false)) (w.heap.size + 1 + 1) 4 (.bool false) := Boxed.set (.bool false) (show Boxed (In.put w1 (w.heap.size + 1) z0.r z0.A z0.c) (w.heap.size + 1 + 1) 4 _ from (heap_put (w := w1) (B := w.heap.size + 1) (by omega) z0.r z0.A z0.c).trans m2)
      have hZ2 : w.heap.size + 6 ≤ ((In.put w1 (w.heap.size + 1) z0.r z0.A z0.c).setCell ⟨w.heap.size + 1 + 1, 0, none⟩ (.bool false)).heap.size := by have := hbW.size; simp; omega
      exact ⟨(keepsFrom_of hbW).trans (K1.from _), ⟨⟨rfl, by rw [hpx, E.out]; exact NO.out⟩, k1, k2⟩, hB.trans L1, hZ2⟩
    · have YE := Lib.hid (fun h2 => ag_yes (o := o) (p := p) (y := ⟨xf, ⟨st, pn, pb, vn, vb, u, s', k, h, n', t, q, xs⟩, xA, xc⟩) HD.out hf h2)
      rw [hf] at HF
      rcases hh : p.head? with _ | y
      · rw [hh] at d3 d4
        simp only [Option.isSome_none, Option.getD_none] at d3 d4
        have HDD : Hid ((p ++ [(⟨xf, ⟨st, pn, pb, vn, vb, u, s', k, h, n', t, q, xs⟩, xA, xc⟩ : Rp)]).head? = some (⟨xf, ⟨st, pn, pb, vn, vb, u, s', k, h, n', t, q, xs⟩, xA, xc⟩ : Rp)) := by
          have hp : p = [] := by simpa using hh
          subst hp
          exact Lib.hid rfl
        have HAG : Hid (ag o (p ++ [(⟨xf, ⟨st, pn, pb, vn, vb, u, s', k, h, n', t, q, xs⟩, xA, xc⟩ : Rp)]) = some (⟨xf, ⟨st, pn, pb, vn, vb, u, s', k, h, n', t, q, xs⟩, xA, xc⟩ : Rp)) := by
          have := YE.out (fun x hx => by rw [hh] at hx; cases hx)
          rw [HDD.out] at this
          exact Lib.hid this
        clear hh
        gi_wp2_with fail
        refine ⟨trivial, ?_⟩
        refine (CallsIn.inRound l (callsIn_wide.2 (HF).out)).mono ?_
        rintro e w1 ⟨rfl, hbW⟩
        have m1 : Rx w1 (w.heap.size + 1) z0.r z0.A z0.c := d1.on hbW d1.lt
        have m2 : Boxed w1 (w.heap.size + 1 + 1) 4 (.bool false) := (hbW.block _ d2.lt).trans d2
        have m3 : Rx w1 (w.heap.size + 1 + 1 + 1) _ _ _ := d3.on hbW d3.lt
        have m4 : Boxed w1 (w.heap.size + 1 + 1 + 1 + 1) 4 _ := (hbW.block _ d4.lt).trans d4
        have m0 : Hx w1 w.heap.size n o A L.length c := d0.on hbW d0.lt
        have mX : Rx w1 Bx ⟨st, pn, pb, vn, vb, u, s', k, h, n', t, q, xs⟩ xA xc := bX.on hbW bX.lt
        obtain ⟨x0, x1, x2, x3, x4, x5, x6, x7, x8, x9, x10, x11, x12⟩ := mX.rb
        obtain ⟨o0, o1, o2, o3, o4, o5, o6, o7, o8, o9, o10, o11, o12⟩ := m3.rb
        obtain ⟨t0, t1, t2, t3, t4, t5, t6, t7, t8, t9, t10, t11, t12⟩ := m1.rb
        obtain ⟨g0, g1, g2⟩ := m0.cells
        have q0 := m1.free 0
        have q1 := m1.free 1
        have q2 := m1.free 2
        have q3 := m1.free 3
        have q4 := m1.free 4
        have q5 := m1.free 5
        have q6 := m1.free 6
        have q7 := m1.free 7
        have q8 := m1.free 8
        have q9 := m1.free 9
        have q10 := m1.free 10
        have q11 := m1.free 11
        have q12 := m1.free 12
        have y0 := m3.free 0
        have y1 := m3.free 1
        have y2 := m3.free 2
        have y3 := m3.free 3
        have y4 := m3.free 4
        have y5 := m3.free 5
        have y6 := m3.free 6
        have y7 := m3.free 7
        have y8 := m3.free 8
        have y9 := m3.free 9
        have y10 := m3.free 10
        have y11 := m3.free 11
        have y12 := m3.free 12
        have c2 := m2.cell
        have f2 := m2.frozen
        have c4 := m4.cell
        have f4 := m4.frozen
        clear HD HP SX LX YE HF
        gi_wp2
        all_goals (first | (rename_i h1 h2; cases h1; done) | (rename_i h1 h2 h3; cases h1; done) | (rename_i h1 h2 h3 h4; cases h1; done) | skip)
        refine ⟨trivial, ?_⟩
        gi_wp2
        all_goals (first | (rename_i h1 h2; cases h1; done) | (rename_i h1 h2 h3; cases h1; done) | (rename_i h1 h2 h3 h4; cases h1; done) | skip)
        have K1 := (keeps_put w1 (w.heap.size + 1 + 1 + 1) ⟨st, pn, pb, vn, vb, u, s', k, h, n', t, q, xs⟩ xA xc).trans (KeepsOthers.setCell (In.put w1 (w.heap.size + 1 + 1 + 1) ⟨st, pn, pb, vn, vb, u, s', k, h, n', t, q, xs⟩ xA xc) ⟨w.heap.size + 1 + 1 + 1 + 1, 0, none⟩ (.bool true))
        have L1 : Below w.heap.size W ((In.put w1 (w.heap.size + 1 + 1 + 1) ⟨st, pn, pb, vn, vb, u, s', k, h, n', t, q, xs⟩ xA xc).setCell ⟨w.heap.size + 1 + 1 + 1 + 1, 0, none⟩ (.bool true)) := (below_put (hbW.mono hsW) (B := w.heap.size + 1 + 1 + 1) (by omega) ⟨st, pn, pb, vn, vb, u, s', k, h, n', t, q, xs⟩ xA xc).setCell (p := ⟨w.heap.size + 1 + 1 + 1 + 1, 0, none⟩) (by simp; omega) (.bool true)
        have k3 : Rx ((In.put w1 (w.heap.size + 1 + 1 + 1) ⟨st, pn, pb, vn, vb, u, s', k, h, n', t, q, xs⟩ xA xc).setCell ⟨w.heap.size + 1 + 1 + 1 + 1, 0, none⟩ (.bool true)) (w.heap.size + 1 + 1 + 1) ⟨st, pn, pb, vn, vb, u, s', k, h, n', t, q, xs⟩ xA xc := (m3.put ⟨st, pn, pb, vn, vb, u, s', k, h, n', t, q, xs⟩ xA xc).other (p := ⟨w.heap.size + 1 + 1 + 1 + 1, 0, none⟩) (by simp) (.bool true)
        have k4 : Boxed ((In.put w1 (w.heap.size + 1 + 1 + 1) ⟨st, pn, pb, vn, vb, u, s', k, h, n', t, q, xs⟩ xA xc).setCell ⟨w.heap.size + 1 + 1 + 1 + 1, 0, none⟩ (.bool true)) (w.heap.size + 1 + 1 + 1 + 1) 4 (.bool true) := Boxed.set (.bool true) (show Boxed (In.put w1 (w.heap.size + 1 + 1 + 1) ⟨st, pn, pb, vn, vb, u, s', k, h, n', t, q, xs⟩ xA xc) (w.heap.size + 1 + 1 + 1 + 1) 4 _ from (heap_put (w := w1) (B := w.heap.size + 1 + 1 + 1) (by omega) ⟨st, pn, pb, vn, vb, u, s', k, h, n', t, q, xs⟩ xA xc).trans m4)
        have k1 : Rx ((In.put w1 (w.heap.size + 1 + 1 + 1) ⟨st, pn, pb, vn, vb, u, s', k, h, n', t, q, xs⟩ xA xc).setCell ⟨w.heap.size + 1 + 1 + 1 + 1, 0, none⟩ (.bool true)) (w.heap.size + 1) z0.r z0.A z0.c := (m1.past (B := w.heap.size + 1 + 1 + 1) (by omega) ⟨st, pn, pb, vn, vb, u, s', k, h, n', t, q, xs⟩ xA xc).other (p := ⟨w.heap.size + 1 + 1 + 1 + 1, 0, none⟩) (by simp) (.bool true)
        have k2 : Boxed ((In.put w1 (w.heap.size + 1 + 1 + 1) ⟨st, pn, pb, vn, vb, u, s', k, h, n', t, q, xs⟩ xA xc).setCell ⟨w.heap.size + 1 + 1 + 1 + 1, 0, none⟩ (.bool true)) (w.heap.size + 1 + 1) 4 (.bool false) := Boxed.other (show Boxed (In.put w1 (w.heap.size + 1 + 1 + 1) ⟨st, pn, pb, vn, vb, u, s', k, h, n', t, q, xs⟩ xA xc) (w.heap.size + 1 + 1) 4 _ from (heap_put (w := w1) (B := w.heap.size + 1 + 1 + 1) (by omega) ⟨st, pn, pb, vn, vb, u, s', k, h, n', t, q, xs⟩ xA xc).trans m2) (by omega) (.bool true)
        have k0 : Hx ((In.put w1 (w.heap.size + 1 + 1 + 1) ⟨st, pn, pb, vn, vb, u, s', k, h, n', t, q, xs⟩ xA xc).setCell ⟨w.heap.size + 1 + 1 + 1 + 1, 0, none⟩ (.bool true)) w.heap.size n o A L.length c := (Below.heap_setCell (In.put w1 (w.heap.size + 1 + 1 + 1) ⟨st, pn, pb, vn, vb, u, s', k, h, n', t, q, xs⟩ xA xc) ⟨w.heap.size + 1 + 1 + 1 + 1, 0, none⟩ (.bool true) _ (by simp; omega)).trans ((heap_put (w := w1) (B := w.heap.size + 1 + 1 + 1) (by omega) ⟨st, pn, pb, vn, vb, u, s', k, h, n', t, q, xs⟩ xA xc).trans m0)
        have H5 : ((In.put w1 (w.heap.size + 1 + 1 + 1) ⟨st, pn, pb, vn, vb, u, s', k, h, n', t, q, xs⟩ xA xc).setCell ⟨w.heap.size + 1 + 1 + 1 + 1, 0, none⟩ (.bool true)).heap[w.heap.size + 1 + 1 + 1 + 1 + 1]? = W.heap[w.heap.size + 1 + 1 + 1 + 1 + 1]? := ((Below.heap_setCell (In.put w1 (w.heap.size + 1 + 1 + 1) ⟨st, pn, pb, vn, vb, u, s', k, h, n', t, q, xs⟩ xA xc) ⟨w.heap.size + 1 + 1 + 1 + 1, 0, none⟩ (.bool true) _ (by simp)).trans (heap_put (w := w1) (B := w.heap.size + 1 + 1 + 1) (by omega) ⟨st, pn, pb, vn, vb, u, s', k, h, n', t, q, xs⟩ xA xc)).trans (hbW.block _ (by omega))
        have hZ2 : w.heap.size + 6 ≤ ((In.put w1 (w.heap.size + 1 + 1 + 1) ⟨st, pn, pb, vn, vb, u, s', k, h, n', t, q, xs⟩ xA xc).setCell ⟨w.heap.size + 1 + 1 + 1 + 1, 0, none⟩ (.bool true)).heap.size := by have := hbW.size; simp; omega
        exact ⟨(keepsFrom_of hbW).trans (K1.from _), ⟨L1, H5⟩, ⟨by rw [hpx, E.out, HAG.out, HDD.out], ⟨k1, k2⟩, ⟨by rw [hpx, E.out, HDD.out]; exact k3, by rw [hpx, E.out, HDD.out]; exact k4⟩, k0⟩, hB.trans L1, hZ2⟩
      · have hyL : y ∈ L := HP.out y (List.mem_of_head? hh)
        have SY := Lib.hid (((hs.below hB).of hyL).mono hsW)
        have HS : ∀ V, At.Sl V V.heap.size .i64 xA xs → At.Sl V V.heap.size .i64 y.A y.r.xs → Hid (Calls Try.prog 38 #[rv ⟨st, pn, pb, vn, vb, u, s', k, h, n', t, q, xs⟩ xA xc, rv y.r y.A y.c] V (BoolPost V (sm ⟨st, pn, pb, vn, vb, u, s', k, h, n', t, q, xs⟩ y.r))) := fun V g g' => gsame_any ⟨st, pn, pb, vn, vb, u, s', k, h, n', t, q, xs⟩ y.r xA y.A xc y.c V g g' LX.out (hl.2 _ hyL)
        have HDD : Hid ((p ++ [(⟨xf, ⟨st, pn, pb, vn, vb, u, s', k, h, n', t, q, xs⟩, xA, xc⟩ : Rp)]).head? = some y) := by
          rcases p with _ | ⟨z, t⟩
          · cases hh
          · exact Lib.hid hh
        have NO : Hid (sm ⟨st, pn, pb, vn, vb, u, s', k, h, n', t, q, xs⟩ y.r = false → ∀ qq : List Rp, ag o (p ++ [(⟨xf, ⟨st, pn, pb, vn, vb, u, s', k, h, n', t, q, xs⟩, xA, xc⟩ : Rp)] ++ qq) = none) := fun h => ag_no_same hh h
        have HAG : Hid (sm ⟨st, pn, pb, vn, vb, u, s', k, h, n', t, q, xs⟩ y.r = true → ag o (p ++ [(⟨xf, ⟨st, pn, pb, vn, vb, u, s', k, h, n', t, q, xs⟩, xA, xc⟩ : Rp)]) = some y) := Lib.hid (fun h => by
          have := YE.out (fun x hx => by rw [hh] at hx; cases hx; exact h)
          rw [HDD.out] at this
          exact this)
        rw [hh] at d3 d4
        simp only [Option.isSome_some, Option.getD_some] at d3 d4
        clear hh HD HP YE
        generalize sm ⟨st, pn, pb, vn, vb, u, s', k, h, n', t, q, xs⟩ y.r = b9 at *
        gi_wp2_with fail
        refine ⟨trivial, ?_⟩
        refine (CallsIn.inRound l (callsIn_wide.2 (HF).out)).mono ?_
        rintro e w1 ⟨rfl, hbW⟩
        have m1 : Rx w1 (w.heap.size + 1) z0.r z0.A z0.c := d1.on hbW d1.lt
        have m2 : Boxed w1 (w.heap.size + 1 + 1) 4 (.bool false) := (hbW.block _ d2.lt).trans d2
        have m3 : Rx w1 (w.heap.size + 1 + 1 + 1) _ _ _ := d3.on hbW d3.lt
        have m4 : Boxed w1 (w.heap.size + 1 + 1 + 1 + 1) 4 _ := (hbW.block _ d4.lt).trans d4
        have m0 : Hx w1 w.heap.size n o A L.length c := d0.on hbW d0.lt
        have mX : Rx w1 Bx ⟨st, pn, pb, vn, vb, u, s', k, h, n', t, q, xs⟩ xA xc := bX.on hbW bX.lt
        obtain ⟨x0, x1, x2, x3, x4, x5, x6, x7, x8, x9, x10, x11, x12⟩ := mX.rb
        obtain ⟨o0, o1, o2, o3, o4, o5, o6, o7, o8, o9, o10, o11, o12⟩ := m3.rb
        obtain ⟨t0, t1, t2, t3, t4, t5, t6, t7, t8, t9, t10, t11, t12⟩ := m1.rb
        obtain ⟨g0, g1, g2⟩ := m0.cells
        have q0 := m1.free 0
        have q1 := m1.free 1
        have q2 := m1.free 2
        have q3 := m1.free 3
        have q4 := m1.free 4
        have q5 := m1.free 5
        have q6 := m1.free 6
        have q7 := m1.free 7
        have q8 := m1.free 8
        have q9 := m1.free 9
        have q10 := m1.free 10
        have q11 := m1.free 11
        have q12 := m1.free 12
        have y0 := m3.free 0
        have y1 := m3.free 1
        have y2 := m3.free 2
        have y3 := m3.free 3
        have y4 := m3.free 4
        have y5 := m3.free 5
        have y6 := m3.free 6
        have y7 := m3.free 7
        have y8 := m3.free 8
        have y9 := m3.free 9
        have y10 := m3.free 10
        have y11 := m3.free 11
        have y12 := m3.free 12
        have c2 := m2.cell
        have f2 := m2.frozen
        have c4 := m4.cell
        have f4 := m4.frozen
        have S1 := SX.out.to hbW hbW.size
        have S2 := SY.out.to hbW hbW.size
        have HS2 := HS w1 S1 S2
        clear HS HF SX SY LX S1 S2
        gi_wp2_with fail
        refine ⟨trivial, ?_⟩
        refine (CallsIn.inRound l (callsIn_wide.2 HS2.out)).mono ?_
        rintro e w2 ⟨rfl, hb2⟩
        clear m1 m2 m3 m4 m0 mX x0 x1 x2 x3 x4 x5 x6 x7 x8 x9 x10 x11 x12 o0 o1 o2 o3 o4 o5 o6 o7 o8 o9 o10 o11 o12 t0 t1 t2 t3 t4 t5 t6 t7 t8 t9 t10 t11 t12 g0 g1 g2 q0 q1 q2 q3 q4 q5 q6 q7 q8 q9 q10 q11 q12 y0 y1 y2 y3 y4 y5 y6 y7 y8 y9 y10 y11 y12 c2 f2 c4 f4 HS2
        replace hbW := hbW.trans (hb2.mono hbW.size)
        clear hb2
        have m1 : Rx w2 (w.heap.size + 1) z0.r z0.A z0.c := d1.on hbW d1.lt
        have m2 : Boxed w2 (w.heap.size + 1 + 1) 4 (.bool false) := (hbW.block _ d2.lt).trans d2
        have m3 : Rx w2 (w.heap.size + 1 + 1 + 1) _ _ _ := d3.on hbW d3.lt
        have m4 : Boxed w2 (w.heap.size + 1 + 1 + 1 + 1) 4 _ := (hbW.block _ d4.lt).trans d4
        have m0 : Hx w2 w.heap.size n o A L.length c := d0.on hbW d0.lt
        have mX : Rx w2 Bx ⟨st, pn, pb, vn, vb, u, s', k, h, n', t, q, xs⟩ xA xc := bX.on hbW bX.lt
        obtain ⟨x0, x1, x2, x3, x4, x5, x6, x7, x8, x9, x10, x11, x12⟩ := mX.rb
        obtain ⟨o0, o1, o2, o3, o4, o5, o6, o7, o8, o9, o10, o11, o12⟩ := m3.rb
        obtain ⟨t0, t1, t2, t3, t4, t5, t6, t7, t8, t9, t10, t11, t12⟩ := m1.rb
        obtain ⟨g0, g1, g2⟩ := m0.cells
        have q0 := m1.free 0
        have q1 := m1.free 1
        have q2 := m1.free 2
        have q3 := m1.free 3
        have q4 := m1.free 4
        have q5 := m1.free 5
        have q6 := m1.free 6
        have q7 := m1.free 7
        have q8 := m1.free 8
        have q9 := m1.free 9
        have q10 := m1.free 10
        have q11 := m1.free 11
        have q12 := m1.free 12
        have y0 := m3.free 0
        have y1 := m3.free 1
        have y2 := m3.free 2
        have y3 := m3.free 3
        have y4 := m3.free 4
        have y5 := m3.free 5
        have y6 := m3.free 6
        have y7 := m3.free 7
        have y8 := m3.free 8
        have y9 := m3.free 9
        have y10 := m3.free 10
        have y11 := m3.free 11
        have y12 := m3.free 12
        have c2 := m2.cell
        have f2 := m2.frozen
        have c4 := m4.cell
        have f4 := m4.frozen
        cases b9
        · gi_wp2
          all_goals (first | (rename_i h1 h2; cases h1; done) | (rename_i h1 h2 h3; cases h1; done) | (rename_i h1 h2 h3 h4; cases h1; done) | skip)
          have K1 := (keeps_put w2 (w.heap.size + 1) z0.r z0.A z0.c).trans (KeepsOthers.setCell (In.put w2 (w.heap.size + 1) z0.r z0.A z0.c) ⟨w.heap.size + 1 + 1, 0, none⟩ (.bool false))
          have L1 : Below w.heap.size W ((In.put w2 (w.heap.size + 1) z0.r z0.A z0.c).setCell ⟨w.heap.size + 1 + 1, 0, none⟩ (.bool false)) := (below_put (hbW.mono hsW) (B := w.heap.size + 1) (by omega) z0.r z0.A z0.c).setCell (p := ⟨w.heap.size + 1 + 1, 0, none⟩) (by simp; omega) (.bool false)
          have k1 : Rx ((In.put w2 (w.heap.size + 1) z0.r z0.A z0.c).setCell ⟨w.heap.size + 1 + 1, 0, none⟩ (.bool false)) (w.heap.size + 1) z0.r z0.A z0.c := (m1.put z0.r z0.A z0.c).other (p := ⟨w.heap.size + 1 + 1, 0, none⟩) (by simp) (.bool false)
          have k2 : Boxed ((In.put w2 (w.heap.size + 1) z0.r z0.A z0.c).setCell ⟨w.heap.size + 1 + 1, 0, none⟩ (.bool false)) (w.heap.size + 1 + 1) 4 (.bool false) := Boxed.set (.bool false) (show Boxed (In.put w2 (w.heap.size + 1) z0.r z0.A z0.c) (w.heap.size + 1 + 1) 4 _ from (heap_put (w := w2) (B := w.heap.size + 1) (by omega) z0.r z0.A z0.c).trans m2)
          have hZ2 : w.heap.size + 6 ≤ ((In.put w2 (w.heap.size + 1) z0.r z0.A z0.c).setCell ⟨w.heap.size + 1 + 1, 0, none⟩ (.bool false)).heap.size := by have := hbW.size; simp; omega
          exact ⟨(keepsFrom_of hbW).trans (K1.from _), ⟨⟨rfl, by rw [hpx, E.out]; exact NO.out (by first | rfl | trivial)⟩, k1, k2⟩, hB.trans L1, hZ2⟩
        · gi_wp2
          all_goals (first | (rename_i h1 h2; cases h1; done) | (rename_i h1 h2 h3; cases h1; done) | (rename_i h1 h2 h3 h4; cases h1; done) | skip)
          exact ⟨keepsFrom_of hbW, ⟨hbW.mono hsW, hbW.block _ (by omega)⟩, ⟨by rw [hpx, E.out, HAG.out (by first | rfl | trivial), HDD.out], ⟨m1, m2⟩, ⟨by rw [hpx, E.out, HDD.out]; exact m3, by rw [hpx, E.out, HDD.out]; exact m4⟩, m0⟩, hB.trans (hbW.mono hsW), Nat.le_trans hZ hbW.size⟩
  case done =>
    rintro D ys W hD rfl ⟨⟨hd, ⟨d1, d2⟩, ⟨d3, d4⟩, d0⟩, hB, hZ⟩ hK
    rw [vs_all] at hd d3 d4
    rw [← hd] at d3 d4
    have H := Lib.hid hd
    clear hd
    generalize ag o (ct L n) = gx at *
    obtain ⟨x0, x1, x2, x3, x4, x5, x6, x7, x8, x9, x10, x11, x12⟩ := d3.rb
    obtain ⟨y0, y1, y2, y3, y4, y5, y6, y7, y8, y9, y10, y11, y12⟩ := d1.rb
    have c4 := d4.cell
    have c2 := d2.cell
    have f2 := d2.frozen
    have g0 := d1.free 0
    have g1 := d1.free 1
    have g2 := d1.free 2
    have g3 := d1.free 3
    have g4 := d1.free 4
    have g5 := d1.free 5
    have g6 := d1.free 6
    have g7 := d1.free 7
    have g8 := d1.free 8
    have g9 := d1.free 9
    have g10 := d1.free 10
    have g11 := d1.free 11
    have g12 := d1.free 12
    have l1 := d1.lt
    have l2 := d2.lt
    have l3 := d3.lt
    have l4 := d4.lt
    clear H
    gi_wp2
    gi_region
    gi_wp2
    have hK' := (((keeps_put W (w.heap.size + 1) (gx.getD z0).r (gx.getD z0).A (gx.getD z0).c).trans (KeepsOthers.setCell (In.put W (w.heap.size + 1) (gx.getD z0).r (gx.getD z0).A (gx.getD z0).c) ⟨w.heap.size + 1 + 1, 0, none⟩ (.bool gx.isSome))).trans (KeepsOthers.drew _)).same D _ hK rfl
    refine ⟨by simp, .inl ⟨_, _, rfl, run_takeDeferred hK', ?_⟩⟩
    have m1 : Rx ((In.put W (w.heap.size + 1) (gx.getD z0).r (gx.getD z0).A (gx.getD z0).c).setCell ⟨w.heap.size + 1 + 1, 0, none⟩ (.bool gx.isSome)) (w.heap.size + 1) (gx.getD z0).r (gx.getD z0).A (gx.getD z0).c := (d1.put (gx.getD z0).r (gx.getD z0).A (gx.getD z0).c).other (p := ⟨w.heap.size + 1 + 1, 0, none⟩) (by simp) (.bool gx.isSome)
    have m2 : Boxed ((In.put W (w.heap.size + 1) (gx.getD z0).r (gx.getD z0).A (gx.getD z0).c).setCell ⟨w.heap.size + 1 + 1, 0, none⟩ (.bool gx.isSome)) (w.heap.size + 1 + 1) 4 (.bool gx.isSome) := Boxed.set (.bool gx.isSome) (show Boxed (In.put W (w.heap.size + 1) (gx.getD z0).r (gx.getD z0).A (gx.getD z0).c) (w.heap.size + 1 + 1) 4 _ from (heap_put (w := W) (B := w.heap.size + 1) (by omega) (gx.getD z0).r (gx.getD z0).A (gx.getD z0).c).trans d2)
    have m2' : Boxed ((In.put W (w.heap.size + 1) (gx.getD z0).r (gx.getD z0).A (gx.getD z0).c).setCell ⟨w.heap.size + 1 + 1, 0, none⟩ (.bool gx.isSome)).drew (w.heap.size + 1 + 1) 4 (.bool gx.isSome) := boxed_drew m2
    have L1 : Below w.heap.size W ((In.put W (w.heap.size + 1) (gx.getD z0).r (gx.getD z0).A (gx.getD z0).c).setCell ⟨w.heap.size + 1 + 1, 0, none⟩ (.bool gx.isSome)) := (below_put (Below.refl _ _) (B := w.heap.size + 1) (by omega) (gx.getD z0).r (gx.getD z0).A (gx.getD z0).c).setCell (p := ⟨w.heap.size + 1 + 1, 0, none⟩) (by simp; omega) (.bool gx.isSome)
    refine ⟨_, run_agreed (by rfl) (by rfl) ((rx_drew m1).kept hK' rfl _) (boxed_kept m2' hK' rfl _), rfl, ?_⟩
    exact (hB.trans L1.drew).trans (belowK_b (w := w) (Nat.le_refl _) _ D _ _ (by omega) hK' rfl rfl)
  case stop =>
    rintro D e pre W hD hpre ⟨⟨⟨rfl, hd⟩, d1, d2⟩, hB, hZ⟩ hK
    obtain ⟨q, hq⟩ := vs_pre hpre
    rw [vs_all] at hq
    have hd2 := hd q
    rw [← hq] at hd2
    have H := Lib.hid hd2
    clear hd hd2 hq
    gi_wp2
    refine ⟨by simp, .inl ⟨_, _, rfl, run_takeDeferred hK, ?_⟩⟩
    refine ⟨_, run_agreed (by rfl) (by rfl) (d1.kept hK rfl _) (boxed_kept d2 hK rfl _), ?_⟩
    rw [H.out]
    exact ⟨rfl, hB.trans (belowK_b (w := w) (Nat.le_refl _) W D _ _ (by omega) hK rfl rfl)⟩

end Go.Proofs.Ytgmfjoegfbaebaa.Rg
