/-
  The walk of Merge: what many are together. Conditions: at most 1000 attributes of at most 1000 deps.
-/
import Derived.Test.YtiedagbboednkaaSmall
namespace Go.Proofs.Ytiedagbboednkaa
open Go.RowKit
set_option linter.unusedVariables false

/-- A box of the call's own that holds an attribute, to be written to. -/
def Ax (w : World) (B : Nat) (a : Int) (A : Option Addr) (n c : Nat) : Prop := w.heap[B]? = some (.cells #[.int .i64 a, .slice A n c] 24 (0, 0))
theorem Ax.rb {w : World} {B : Nat} {a : Int} {A : Option Addr} {n c : Nat} (h : Ax w B a A n c) : Rb w B a A n c :=
  ⟨by rw [cell_of_row w B 0 _ 24 _ h]; rfl, by rw [cell_of_row w B 1 _ 24 _ h]; rfl⟩
theorem Ax.free {w : World} {B : Nat} {a : Int} {A : Option Addr} {n c : Nat} (h : Ax w B a A n c) (i : Nat) : w.frozen? ⟨B, i, none⟩ = false := Lib.frozen_of_heap h i
theorem Ax.lt {w : World} {B : Nat} {a : Int} {A : Option Addr} {n c : Nat} (h : Ax w B a A n c) : B < w.heap.size := lt_of_block h
theorem ax_new (w : World) (a : Int) (A : Option Addr) (n c : Nat) : Ax (w.alloc (.cells #[.int .i64 a, .slice A n c] 24)) w.heap.size a A n c := heap_alloc_new w _
theorem Ax.old {w : World} {B : Nat} {a : Int} {A : Option Addr} {n c : Nat} (h : Ax w B a A n c) (o : Obj) : Ax (w.alloc o) B a A n c := (heap_alloc_old w o h.lt).trans h
theorem Ax.other {w : World} {B : Nat} {a : Int} {A : Option Addr} {n c : Nat} (h : Ax w B a A n c) {p : Addr} (hne : B ≠ p.block) (v : Value) : Ax (w.setCell p v) B a A n c := (Below.heap_setCell w p v B hne).trans h
theorem Ax.on {w w' : World} {B D : Nat} {a : Int} {A : Option Addr} {n c : Nat} (h : Ax w B a A n c) (hb : Below D w w') (hlt : B < D) : Ax w' B a A n c := (hb.block B hlt).trans h
theorem Ax.set0 {w : World} {B : Nat} {a : Int} {A : Option Addr} {n c : Nat} (h : Ax w B a A n c) (a' : Int) : Ax (w.setCell ⟨B, 0, none⟩ (.int .i64 a')) B a' A n c := heap_setCell_same w B 0 _ 24 _ h
theorem Ax.set1 {w : World} {B : Nat} {a : Int} {A : Option Addr} {n c : Nat} (h : Ax w B a A n c) (A' : Option Addr) (n' c' : Nat) : Ax (w.setCell ⟨B, 1, none⟩ (.slice A' n' c')) B a A' n' c' := heap_setCell_same w B 1 _ 24 _ h

/-- A box that holds an instance. -/
def Ix (w : World) (B : Nat) (x y : Int) : Prop := w.heap[B]? = some (.cells #[.int .i64 x, .int .i64 y] 26 (0, 0))
theorem Ix.ib {w : World} {B : Nat} {x y : Int} (h : Ix w B x y) : Ib w B x y := ⟨by rw [cell_of_row w B 0 _ 26 _ h]; rfl, by rw [cell_of_row w B 1 _ 26 _ h]; rfl⟩
theorem ix_new (w : World) (x y : Int) : Ix (w.alloc (.cells #[.int .i64 x, .int .i64 y] 26)) w.heap.size x y := heap_alloc_new w _
theorem Ix.old {w : World} {B : Nat} {x y : Int} (h : Ix w B x y) (o : Obj) : Ix (w.alloc o) B x y := (heap_alloc_old w o (lt_of_block h)).trans h

/-- A row of the call's own that holds integers, to be written to. -/
def Rx (w : World) (g : Nat) (ys : List Int) : Prop := w.heap[g]? = some (.cells (ys.map (Value.int .i64)).toArray 3 (0, 0))
theorem Rx.cell {w : World} {g : Nat} {ys : List Int} (h : Rx w g ys) {j : Nat} (hj : j < ys.length) : w.cell? ⟨g, j, none⟩ = some (.int .i64 (ys.getD j 0)) := by
  rw [cell_of_row w g j _ 3 _ h]
  simp [List.getD, hj]
theorem Rx.free {w : World} {g : Nat} {ys : List Int} (h : Rx w g ys) (i : Nat) : w.frozen? ⟨g, i, none⟩ = false := Lib.frozen_of_heap h i
theorem Rx.lt {w : World} {g : Nat} {ys : List Int} (h : Rx w g ys) : g < w.heap.size := lt_of_block h
theorem Rx.old {w : World} {g : Nat} {ys : List Int} (h : Rx w g ys) (o : Obj) : Rx (w.alloc o) g ys := (heap_alloc_old w o h.lt).trans h
theorem Rx.other {w : World} {g : Nat} {ys : List Int} (h : Rx w g ys) {p : Addr} (hne : g ≠ p.block) (v : Value) : Rx (w.setCell p v) g ys := (Below.heap_setCell w p v g hne).trans h
theorem Rx.set {w : World} {g : Nat} {ys : List Int} (h : Rx w g ys) (j : Nat) (x : Int) : Rx (w.setCell ⟨g, j, none⟩ (.int .i64 x)) g (ys.set j x) := by
  have := heap_setCell_same w g j _ 3 (.int .i64 x) h
  unfold Rx
  rw [this, List.map_set, List.setIfInBounds_toArray]
theorem Rx.sl {w : World} {g : Nat} {ys : List Int} (h : Rx w g ys) : Sl w w.heap.size .i64 (some ⟨g, 0, none⟩) ys :=
  .inr ⟨g, 0, rfl, h.lt, fun j x hx => by
    have hj : j < ys.length := (List.getElem?_eq_some_iff.1 hx).1
    rw [Nat.zero_add, h.cell hj]
    simp [List.getD, hx]⟩
theorem rx_made {w : World} {base g n : Nat} {ys : List Int} (h : w.ownsRow base 3 1 (.slice (some ⟨g, 0, none⟩) n n) n (ys.map (Value.int .i64))) : Rx w g ys := by
  rcases h.2 with ⟨h0, _⟩ | ⟨g', cap, cur, hv, _, hh, _, _, hcs, ht⟩
  · cases h0
  · simp only [Value.slice.injEq, Option.some.injEq, Addr.mk.injEq] at hv
    obtain ⟨⟨rfl, _⟩, _, rfl⟩ := hv
    rw [List.take_of_length_le (by simp [hcs])] at ht
    unfold Rx
    rw [hh, ← ht]
theorem made_ints (k : Nat) : (madeCells (Value.int .i64 0).cells (k * 1)).toList = (List.replicate k (0 : Int)).map (Value.int .i64) := by
  rw [Nat.mul_one]
  show (madeCells #[.int .i64 0] k).toList = _
  rw [toList_madeCells_one]
  simp
theorem info3 : (Try.prog.info? 3).map (fun i => (i.zero, i.size, i.bytes)) = some (some (.int .i64 0), 1, 8) := by kernel_rfl

/-- What the row holds in the midst of one attribute. -/
def Mid (l : List (Int × List Int)) (k j : Nat) (xs : List Int) (ys : List Int) : Prop := ∀ i, ys.getD i 0 = if i < j then max (dm (l.take k) i) (xs.getD i 0) else dm (l.take k) i
theorem mid_zero {l : List (Int × List Int)} {k : Nat} {xs ys : List Int} (h : ∀ i, ys.getD i 0 = dm (l.take k) i) : Mid l k 0 xs ys := fun i => by rw [if_neg (by omega)]; exact h i
theorem mid_step {l : List (Int × List Int)} {k j : Nat} {xs ys : List Int} (h : Mid l k j xs ys) (hj : j < ys.length) : Mid l k (j + 1) xs (ys.set j (max (ys.getD j 0) (xs.getD j 0))) := fun i => by
  by_cases hi : i = j
  · subst hi
    rw [if_pos (by omega)]
    have := h i
    rw [if_neg (by omega)] at this
    rw [← this]
    simp [List.getD, hj]
  · have e : (ys.set j (max (ys.getD j 0) (xs.getD j 0))).getD i 0 = ys.getD i 0 := by
      simp only [List.getD]
      rw [List.getElem?_set_ne (by omega)]
    rw [e, h i]
    by_cases h2 : i < j
    · rw [if_pos h2, if_pos (by omega)]
    · rw [if_neg h2, if_neg (by omega)]
theorem mid_end {l : List (Int × List Int)} {k : Nat} (hk : k < l.length) {ys : List Int} (h : Mid l k (l[k]).2.length (l[k]).2 ys) : ∀ i, ys.getD i 0 = dm (l.take (k + 1)) i := fun i => by
  rw [h i, dm_take l k hk]
  split
  · rfl
  · rw [getD_out (by omega)]
    have := dm_nn (l.take k) i
    omega

theorem run_res19 {V : World} {tm : Array Value} {B : Nat} {a : Int} {A : Option Addr} {n c : Nat} (h2 : tm[2]?.getD undef = .pointer (some ⟨B, 0, none⟩)) (hb : Rb V B a A n c) :
    (results Try.f19 tm).run Try.prog V = .ok (.agg #[.int .i64 a, .slice A n c]) V := by
  obtain ⟨c0, c1⟩ := hb
  simp [results, Try.results19, h2, go_sem, c0, c1]

set_option maxHeartbeats 4000000 in
theorem merge_any (A : Option Addr) (c : Nat) (l : List (Int × List Int)) (w : World) (hl : l.length ≤ 1000) (hn : lg l ≤ 1000) (hs : Rc w w.heap.size A l) : Calls Try.prog 19 #[.slice A l.length c] w (AtPost w (sq l) (mg l)) := by
  obtain ⟨i0, hi, hz0, hz1, hz2⟩ := info_parts info3
  have BN : Below w.heap.size w (w.alloc (.cells #[.int .i64 0, .slice none 0 0] 24)) := (Below.refl _ _).alloc (Nat.le_refl _) _
  have HL : Hid (Calls Try.prog 23 #[.slice A l.length c] (w.alloc (.cells #[.int .i64 0, .slice none 0 0] 24)) (IntPost (w.alloc (.cells #[.int .i64 0, .slice none 0 0] 24)) (lg l))) := long_any A c l _ hl ((hs.below BN).mono BN.size)
  have X0 := ax_new w 0 none 0 0
  have ZN : (w.alloc (.cells #[.int .i64 0, .slice none 0 0] 24)).heap.size = w.heap.size + 1 := by simp
  have HLE : Hid (∀ r ∈ l, r.2.length ≤ lg l) := lg_le l
  generalize hnn : lg l = n at *
  have HNN := Lib.hid hnn
  clear hnn
  go_enter Try.func19, Try.ntmps19
  go_wp2_with fail
  generalize w.alloc (.cells #[.int .i64 0, .slice none 0 0] 24) = W0 at *
  refine HL.out.mono ?_
  rintro e w1 ⟨rfl, B1⟩
  have z1 := B1.size
  have X1 := X0.on B1 (by omega)
  have Bw1 := BN.trans (B1.mono BN.size)
  have hbase : w.heap.size ≤ w1.heap.size := by omega
  go_wp2_with (at_make; refine wpList_make_full _ rfl _ _ 22 rfl w.heap.size 3 i0 (.int .i64 0) 1 Try.underlying22 hi hz0 hz1 _ _ _ _ n rfl rfl rfl rfl (by rw [hz2]; omega) (by unfold maxLen; omega) hbase ?_; intro w2 hown2 hgrow2)
  have Bw2 := Bw1.grown hgrow2 hbase (by simp)
  rw [made_ints] at hown2
  have R2 := rx_made hown2
  have X2 : Ax w2 w.heap.size 0 none 0 0 := (hgrow2.block w.heap.size (by omega) (by simp)).trans X1
  have hg := hown2.lt w1.heap.size rfl
  have hg2 := R2.lt
  have M2 := ax_new w2 0 (some ⟨w1.heap.size, 0, none⟩) n n
  have R3 := R2.old (.cells #[.int .i64 0, .slice (some ⟨w1.heap.size, 0, none⟩) n n] 24)
  have X3 := X2.old (.cells #[.int .i64 0, .slice (some ⟨w1.heap.size, 0, none⟩) n n] 24)
  have Bw3 := Bw2.alloc Bw2.size (.cells #[.int .i64 0, .slice (some ⟨w1.heap.size, 0, none⟩) n n] 24)
  have hgw : w.heap.size < w1.heap.size := by omega
  have hMg : w1.heap.size < w2.heap.size := hg2
  clear R2 X2 hown2 hgrow2 hg X1 X0 B1 BN HL Bw1 Bw2 hi hz0 hz1 hz2 ZN z1
  generalize w1.heap.size = g at *
  generalize w2.heap.size = M at *
  generalize w2.alloc (.cells #[.int .i64 0, .slice (some ⟨g, 0, none⟩) n n] 24) = W3 at *
  go_loopw [14] (fun i wr => ∃ (k : Nat) (ys : List Int), k ≤ l.length ∧ i = .int .i64 (k : Int) ∧ Ax wr M (sq (l.take k)) (some ⟨g, 0, none⟩) n n ∧ Rx wr g ys ∧ Ax wr w.heap.size 0 none 0 0 ∧ ys.length = n ∧ (∀ i, ys.getD i 0 = dm (l.take k) i) ∧ Below w.heap.size w wr) (fun i _ => l.length - (intOf i).toNat)
  case atStart => exact ⟨0, List.replicate n 0, by omega, rfl, M2, R3, X3, by simp, fun i => by simp [dm, List.getD, List.getElem?_replicate]; split <;> rfl, Bw3⟩
  case round =>
    obtain ⟨k, ys, hk, rfl, hM, hR, hX, hyl, hyd, hbel⟩ := hrel
    have HYL := Lib.hid hyl
    have HYD := Lib.hid hyd
    clear hyl hyd M2 R3 X3 Bw3
    have hsz := hbel.size
    have hMl := hM.lt
    by_cases hlt : k < l.length
    · obtain ⟨b, off, A', c', rfl, hb, x0, x1, hsx⟩ := (hs.below hbel).at_ hlt
      have hxl := HLE.out l[k] (List.getElem_mem hlt)
      have HQ := Lib.hid (sq_take l k hlt)
      have HE := Lib.hid (fun ys => mid_end (l := l) hlt (ys := ys))
      have hki : (k : Int) < (l.length : Int) := by omega
      generalize l[k] = r at *
      obtain ⟨a, xs⟩ := r
      simp only at x0 x1 hxl HQ HE hsx
      generalize sq (l.take k) = s at *
      obtain ⟨p0, p1⟩ := hM.rb
      have f0 := hM.free 0
      go_wp2
      have M1 : Ax ((wr.setCell ⟨M, 0, none⟩ (.int .i64 (max s a))).alloc (.cells #[.int .i64 a, .slice A' xs.length c'] 24)) M (max s a) (some ⟨g, 0, none⟩) n n := (hM.set0 _).old _
      have R1 : Rx ((wr.setCell ⟨M, 0, none⟩ (.int .i64 (max s a))).alloc (.cells #[.int .i64 a, .slice A' xs.length c'] 24)) g ys := (hR.other (by show g ≠ M; omega) _).old _
      have X1 : Ax ((wr.setCell ⟨M, 0, none⟩ (.int .i64 (max s a))).alloc (.cells #[.int .i64 a, .slice A' xs.length c'] 24)) w.heap.size 0 none 0 0 := (hX.other (by show w.heap.size ≠ M; omega) _).old _
      have E1 : Below w.heap.size w ((wr.setCell ⟨M, 0, none⟩ (.int .i64 (max s a))).alloc (.cells #[.int .i64 a, .slice A' xs.length c'] 24)) := (hbel.setCell (by show w.heap.size ≤ M; omega) _).alloc (by simpa using hsz) _
      have S1 : Sl ((wr.setCell ⟨M, 0, none⟩ (.int .i64 (max s a))).alloc (.cells #[.int .i64 a, .slice A' xs.length c'] 24)) w.heap.size .i64 A' xs := hsx.below (((Below.refl _ _).setCell (by show w.heap.size ≤ M; omega) _).alloc (by simpa using hsz) _)
      have S2 : Hid (∀ W, Below w.heap.size ((wr.setCell ⟨M, 0, none⟩ (.int .i64 (max s a))).alloc (.cells #[.int .i64 a, .slice A' xs.length c'] 24)) W → Sl W w.heap.size .i64 A' xs) := fun W hW => S1.below hW
      clear hM hR hX hbel hsx x0 x1 p0 p1 f0 hs
      have MD : Hid (Mid l k 0 xs ys) := mid_zero HYD.out
      generalize ((wr.setCell ⟨M, 0, none⟩ (.int .i64 (max s a))).alloc (.cells #[.int .i64 a, .slice A' xs.length c'] 24)) = W4 at *
      go_loopw [27] (fun i wr => ∃ (j : Nat) (ys : List Int), j ≤ xs.length ∧ i = .int .i64 (j : Int) ∧ Ax wr M (max s a) (some ⟨g, 0, none⟩) n n ∧ Rx wr g ys ∧ Ax wr w.heap.size 0 none 0 0 ∧ ys.length = n ∧ Mid l k j xs ys ∧ Below w.heap.size W4 wr) (fun i _ => xs.length - (intOf i).toNat)
      case atStart => exact ⟨0, ys, by omega, rfl, M1, R1, X1, HYL.out, MD.out, Below.refl _ _⟩
      case round =>
        obtain ⟨j, zs, hj, rfl, hM, hR, hX, hzl, hzd, hbel⟩ := hrel
        have HZL := Lib.hid hzl
        have HZD := Lib.hid hzd
        clear hzl hzd M1 R1 X1 MD HYL HYD S1
        have hE := E1.trans (hbel)
        by_cases hjt : j < xs.length
        · obtain ⟨b', off', rfl, hb', hcell⟩ := (S2.out _ hbel).at_ hjt
          have hjz : j < zs.length := by rw [HZL.out]; omega
          have ry := hR.cell hjz
          have HS := Lib.hid (mid_step HZD.out hjz)
          have fy := hR.free j
          obtain ⟨p0, p1⟩ := hM.rb
          have hji : (j : Int) < (n : Int) := by omega
          generalize xs.getD j 0 = x at *
          generalize zs.getD j 0 = y at *
          go_wp2
          go_region
          have M2 : Ax (wr.setCell ⟨g, j, none⟩ (.int .i64 (max y x))).drew M (max s a) (some ⟨g, 0, none⟩) n n := hM.other (by show M ≠ g; omega) _
          have R2 : Rx (wr.setCell ⟨g, j, none⟩ (.int .i64 (max y x))).drew g (zs.set j (max y x)) := hR.set j _
          have X2 : Ax (wr.setCell ⟨g, j, none⟩ (.int .i64 (max y x))).drew w.heap.size 0 none 0 0 := hX.other (by show w.heap.size ≠ g; omega) _
          have E2 : Below w.heap.size W4 (wr.setCell ⟨g, j, none⟩ (.int .i64 (max y x))).drew := (hbel.setCell (by show w.heap.size ≤ g; omega) _).drew
          generalize (wr.setCell ⟨g, j, none⟩ (.int .i64 (max y x))).drew = W5 at *
          go_wp2
          go_roundw
          case rel => exact ⟨j + 1, zs.set j (max y x), by omega, by go_num, M2, R2, X2, by rw [List.length_set]; exact HZL.out, HS.out, E2⟩
          case measure => simp [intOf]; omega
        · obtain rfl : j = xs.length := by omega
          have HE' := Lib.hid (HE.out zs HZD.out)
          clear HZD HE S2
          go_wp2
          go_roundw
          case rel => exact ⟨k + 1, zs, by omega, by go_num, by rw [HQ.out]; exact hM, hR, hX, HZL.out, HE'.out, hE⟩
          case measure => simp [intOf]; omega
    · obtain rfl : k = l.length := by omega
      rw [List.take_length] at hM HYD
      have e : ys = mg l := mg_ext (by rw [HYL.out, HNN.out]) HYD.out
      have ez : Hid ((mg l).length = n) := by show _ = _; rw [mg_len]; exact HNN.out
      subst e
      obtain ⟨p0, p1⟩ := hM.rb
      obtain ⟨r0, r1⟩ := hX.rb
      have f0 := hX.free 0
      have f1 := hX.free 1
      generalize mg l = zs at *
      generalize sq l = s at *
      clear HYL HYD HNN HLE hs
      go_wp2
      have X9 : Ax ((wr.setCell ⟨w.heap.size, 0, none⟩ (.int .i64 s)).setCell ⟨w.heap.size, 1, none⟩ (.slice (some ⟨g, 0, none⟩) n n)) w.heap.size s (some ⟨g, 0, none⟩) n n := (hX.set0 s).set1 _ _ _
      have R9 : Rx ((wr.setCell ⟨w.heap.size, 0, none⟩ (.int .i64 s)).setCell ⟨w.heap.size, 1, none⟩ (.slice (some ⟨g, 0, none⟩) n n)) g zs := (hR.other (by show g ≠ w.heap.size; omega) _).other (by show g ≠ w.heap.size; omega) _
      have E9 : Below w.heap.size w ((wr.setCell ⟨w.heap.size, 0, none⟩ (.int .i64 s)).setCell ⟨w.heap.size, 1, none⟩ (.slice (some ⟨g, 0, none⟩) n n)) := (hbel.setCell (Nat.le_refl _) _).setCell (Nat.le_refl _) _
      have ez' := ez.out
      refine bodyPost_ret (run_res19 (B := w.heap.size) rfl X9.rb) rfl ⟨some ⟨g, 0, none⟩, n, ?_, R9.sl, E9⟩
      rw [ez']

end Go.Proofs.Ytiedagbboednkaa
