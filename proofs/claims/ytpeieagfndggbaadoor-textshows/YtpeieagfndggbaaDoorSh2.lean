/-
  The walk of the program's Show: the line that asks for something, or that it can't be asked for, is what the plain theory says. Conditions: the text has at most 10^5 bytes; the tables read as their initialisers lay them.
-/
import Derived.Test.YtpeieagfndggbaaDoorWr
import Derived.Deep.RegionWith
namespace Go.Proofs.YtpeieagfndggbaaDoor
open Go.RowKit Tx

def shown (k h n : Int) (t : List Nat) : List Nat × Nat := if sayable k h n t = true then (line ⟨k.toNat, h.toNat, n.toNat, t⟩, 0) else ([], 1)
def ShPost (w : World) (r : List Nat × Nat) (e : Ending) (w' : World) : Prop := (∃ u, nt u = r.1 ∧ e = .returned (.tuple #[.string u, .int .i64 r.2])) ∧ Below w.heap.size w w'
def wS (k : Nat) : ByteArray := wds.getD k ByteArray.empty
theorem nt_wS {k : Nat} (h : 1 ≤ k ∧ k ≤ 7) : nt (wS k) = wd k := by
  refine kinds (P := fun k => nt (wS k) = wd k) h ?_ ?_ ?_ ?_ ?_ ?_ ?_ <;> rfl
theorem fit_iff {n most : Int} : fit n most = true ↔ 1 ≤ n ∧ n ≤ most := by unfold fit; rw [Bool.and_eq_true, decide_eq_true_eq, decide_eq_true_eq]
theorem say_iff {k h n : Int} {t : List Nat} : sayable k h n t = true ↔ (1 ≤ k ∧ k ≤ 7) ∧ (1 ≤ h ∧ h ≤ 1048576) ∧ (numbered k.toNat = true → 1 ≤ n ∧ n ≤ 1073741824) ∧ (worded k.toNat = true → may t = true) := by
  unfold sayable
  rw [Bool.and_eq_true, Bool.and_eq_true, Bool.and_eq_true, Bool.and_eq_true, decide_eq_true_eq, decide_eq_true_eq, fit_iff, Bool.or_eq_true, Bool.or_eq_true, fit_iff, Bool.not_eq_true', Bool.not_eq_true']
  constructor
  · rintro ⟨⟨⟨h1, h2⟩, h3⟩, h4⟩
    exact ⟨h1, h2, fun q => h3.resolve_left (by rw [q]; decide), fun q => h4.resolve_left (by rw [q]; decide)⟩
  · rintro ⟨h1, h2, h3, h4⟩
    refine ⟨⟨⟨h1, h2⟩, ?_⟩, ?_⟩
    · cases q : numbered k.toNat
      · exact .inl rfl
      · exact .inr (h3 q)
    · cases q : worded k.toNat
      · exact .inl rfl
      · exact .inr (h4 q)
theorem Cx.cl {w : World} {B : Nat} {u s k h n : Int} {t : ByteArray} (hb : Cx w B u s k h n t) : w.cell? ⟨B, 0, none⟩ = some (.int .i64 u) ∧ w.cell? ⟨B, 1, none⟩ = some (.int .i64 s) ∧ w.cell? ⟨B, 2, none⟩ = some (.int .i64 k) ∧ w.cell? ⟨B, 3, none⟩ = some (.int .i64 h) ∧ w.cell? ⟨B, 4, none⟩ = some (.int .i64 n) ∧ w.cell? ⟨B, 5, none⟩ = some (.string t) := hb.cb
theorem arm1 {w1 w2 : World} {B : Nat} {u s k h n : Int} {t : ByteArray} (hb : Below w1.drew.heap.size w1.drew w2) (hc : Cx w1 B u s k h n t) : Cx w2 B u s k h n t := (hb.block B hc.lt).trans hc
theorem arm2 {w1 w2 : World} {o : Obj} {B : Nat} {u s k h n : Int} {t : ByteArray} (hb : Below (w1.alloc o).drew.heap.size (w1.alloc o).drew w2) (hc : Cx w1 B u s k h n t) : Cx w2 B u s k h n t := by
  have h1 : B < (w1.alloc o).drew.heap.size := by have := hc.lt; simp; omega
  exact (hb.block B h1).trans ((nalloc_old w1 o hc.lt).trans hc)
theorem wr2 {w1 w2 : World} (hb : Below (w1.alloc (.cells #[.string ⟨#[]⟩, .int .i64 0, .int .i64 0, .int .i64 0, .int .i64 0, .int .i64 0, .string ⟨#[]⟩] 46)).drew.heap.size (w1.alloc (.cells #[.string ⟨#[]⟩, .int .i64 0, .int .i64 0, .int .i64 0, .int .i64 0, .int .i64 0, .string ⟨#[]⟩] 46)).drew w2) : Rx 46 w2 w1.heap.size ⟨#[]⟩ 0 0 0 0 0 ⟨#[]⟩ :=
  (hb.block w1.heap.size (by simp)).trans (nalloc_new w1 _)
theorem row2 {w1 w2 : World} {o : Obj} {K : Nat} {v : Option Value} (h : w2.cell? ⟨(w1.alloc o).drew.heap.size, K, none⟩ = v) : w2.cell? ⟨w1.heap.size + 1, K, none⟩ = v := by
  have e : (w1.alloc o).drew.heap.size = w1.heap.size + 1 := by simp
  rw [e] at h
  exact h
theorem fin_b {w w1 w2 : World} {o : Obj} (hb : Below w1.drew.heap.size w1.drew w2) (b : Below w.heap.size w w1) : Below w.heap.size w (w2.alloc o) :=
  (b.drew.trans (hb.mono b.size)).alloc (Nat.le_trans b.size hb.size) o
theorem fin_b2 {w w1 w2 : World} {o o' : Obj} (hb : Below (w1.alloc o').drew.heap.size (w1.alloc o').drew w2) (b : Below w.heap.size w w1) : Below w.heap.size w (w2.alloc o) := by
  have h1 : w1.heap.size ≤ (w1.alloc o').drew.heap.size := by simp
  have h2 := b.size
  have h3 := hb.size
  exact (((b.alloc b.size o').drew).trans (hb.mono (by omega))).alloc (by omega) o
abbrev st7 (W : World) (B : Nat) (l : ByteArray) (u s k h n : Int) (t : ByteArray) : World := ((((((W.setCell ⟨B, 0, none⟩ (.string l)).setCell ⟨B, 1, none⟩ (.int .i64 u)).setCell ⟨B, 2, none⟩ (.int .i64 s)).setCell ⟨B, 3, none⟩ (.int .i64 k)).setCell ⟨B, 4, none⟩ (.int .i64 h)).setCell ⟨B, 5, none⟩ (.int .i64 n)).setCell ⟨B, 6, none⟩ (.string t)
theorem Rx.setu {T : Nat} {w : World} {B : Nat} {l : ByteArray} {u s k h n : Int} {t : ByteArray} (hb : Rx T w B l u s k h n t) (u' : Int) : Rx T (w.setCell ⟨B, 1, none⟩ (.int .i64 u')) B l u' s k h n t := heap_setCell_same w B 1 _ T _ hb
theorem Rx.sets {T : Nat} {w : World} {B : Nat} {l : ByteArray} {u s k h n : Int} {t : ByteArray} (hb : Rx T w B l u s k h n t) (s' : Int) : Rx T (w.setCell ⟨B, 2, none⟩ (.int .i64 s')) B l u s' k h n t := heap_setCell_same w B 2 _ T _ hb
theorem fin_r {W : World} {B : Nat} {l l' : ByteArray} {u s k h n u' s' k' h' n' : Int} {t t' : ByteArray} (hr : Rx 46 W B l' u' s' k' h' n' t') : Rx 46 (st7 W B l u s k h n t) B l u s k h n t :=
  ((((((hr.setl l).setu u).sets s).setk k).seth h).setn n).sett t
theorem fin_c {W : World} {A B : Nat} {l : ByteArray} {u s k h n u' s' k' h' n' : Int} {t t' : ByteArray} (hc : Cx W A u' s' k' h' n' t') (hne : A ≠ B) : Cx (st7 W B l u s k h n t) A u' s' k' h' n' t' := by
  have hs : ∀ (W : World) (i : Nat) (v : Value), (W.setCell ⟨B, i, none⟩ v).heap[A]? = W.heap[A]? := fun W i v => Below.heap_setCell W ⟨B, i, none⟩ v A hne
  unfold Cx
  rw [hs, hs, hs, hs, hs, hs, hs]
  exact hc
theorem fin_b3 {w w1 w2 : World} {o' : Obj} {l : ByteArray} {u s k h n : Int} {t : ByteArray} (hb : Below (w1.alloc o').drew.heap.size (w1.alloc o').drew w2) (b : Below w.heap.size w w1) (hlt : w.heap.size < w1.heap.size) : Below w.heap.size w (st7 w2 w1.heap.size l u s k h n t) := by
  have h1 : w1.heap.size ≤ (w1.alloc o').drew.heap.size := by simp
  have h2 := b.size
  have b0 := ((b.alloc b.size o').drew).trans (hb.mono (by omega))
  have hs : ∀ (W : World) (i : Nat) (v : Value), Below w.heap.size w W → Below w.heap.size w (W.setCell ⟨w1.heap.size, i, none⟩ v) := fun W i v q => q.setCell (p := ⟨w1.heap.size, i, none⟩) h2 v
  exact hs _ _ _ (hs _ _ _ (hs _ _ _ (hs _ _ _ (hs _ _ _ (hs _ _ _ (hs _ _ _ b0))))))
theorem words_at (k : Nat) (hk : 1 ≤ k ∧ k ≤ 7) (W : World) : Calls Tryd.prog 16 #[] W fun e w' => e = .returned (.slice (some ⟨W.heap.size, 0, none⟩) 8 8) ∧ w'.cell? ⟨W.heap.size, k, none⟩ = some (.string (wS k)) ∧ Below W.heap.size W w' := by
  refine (words_any W).mono ?_
  rintro e w' ⟨rfl, hw⟩
  refine ⟨rfl, ?_, by rw [hw]; exact (Below.refl _ _).alloc (Nat.le_refl _) _⟩
  have hrow : w'.heap[W.heap.size]? = some (.cells #[.string W0, .string W1, .string W2, .string W3, .string W4, .string W5, .string W6, .string W7] 9 (0, 0)) := by rw [hw]; exact nalloc_new W _
  rw [cell_of_row w' _ k _ 9 _ hrow]
  refine kinds (P := fun k => #[Value.string W0, .string W1, .string W2, .string W3, .string W4, .string W5, .string W6, .string W7][k]? = some (.string (wS k))) hk ?_ ?_ ?_ ?_ ?_ ?_ ?_ <;> rfl
set_option maxHeartbeats 4000000 in
set_option maxRecDepth 100000 in
theorem show_any (u s k h n : Int) (t : ByteArray) (w : World) (hN : Nd w) (ht : t.size ≤ 100000) : Calls Tryd.prog 14 #[cv u s k h n t] w (ShPost w (shown k h n (nt t))) := by
  have hmf : ∀ (fn : Fn) (first cap : Array Value) (w : World), (Instr.makeFunc fn first cap).run Tryd.prog w = .ok (.func fn first cap) w := fun _ _ _ _ => rfl
  have b1 : Below w.heap.size w (w.alloc (.cells #[.int .i64 u, .int .i64 s, .int .i64 k, .int .i64 h, .int .i64 n, .string t] 24)) := (Below.refl _ _).alloc (Nat.le_refl _) _
  have HY := fun W hn => Lib.hid (maysay_any u s k h n t W hn)
  unfold shown
  cases hs : sayable k h n (nt t)
  · rw [if_neg (by decide)]
    rw [hs] at HY
    go_enter Tryd.func14, Tryd.ntmps14
    go_wp2_with fail
    refine (HY _ (hN.on b1)).out.mono ?_
    rintro e w1 ⟨rfl, b2⟩
    go_wp2
    go_ret2
    exact ⟨⟨⟨#[]⟩, rfl, rfl⟩, b1.trans (b2.mono (by simp))⟩
  · rw [if_pos rfl]
    rw [hs] at HY
    obtain ⟨⟨k1, k2⟩, hh, hn, hw⟩ := say_iff.1 hs
    obtain ⟨K, rfl⟩ : ∃ K : Nat, k = K := ⟨k.toNat, by omega⟩
    rw [Int.toNat_natCast] at hn hw ⊢
    have hK : 1 ≤ K ∧ K ≤ 7 := by omega
    have hc1 := cx_new w u s K h n t
    clear hs
    go_enter Tryd.func14, Tryd.ntmps14
    go_wp2_with fail
    refine (HY _ (hN.on b1)).out.mono ?_
    rintro e w1 ⟨rfl, b2⟩
    have hc := hc1.on b2 (by simp)
    have b3 := b1.trans (b2.mono (by simp))
    clear HY hc1 b1 b2
    obtain ⟨c0, c1, c2, c3, c4, c5⟩ := hc.cl
    have hlt := hc.lt
    have i1 : (0 : Int) ≤ (K : Int) := by omega
    have i2 : (K : Int) < 8 := by omega
    have HW := fun W => Lib.hid (words_at K hK W)
    have hsz : (wS K).size ≤ 10 := by refine kinds (P := fun k => (wS k).size ≤ 10) hK ?_ ?_ ?_ ?_ ?_ ?_ ?_ <;> decide
    have q1 : ¬ 9223372036854775807 < 1 + (wS K).size := by omega
    go_wp2_with fail
    rename_i K0 hK0
    have hnt : nt (({ data := #[47] } : ByteArray) ++ wS K) = 47 :: wd K := by rw [nt_append, nt_wS hK]; rfl
    have hsz2 : (({ data := #[47] } : ByteArray) ++ wS K).size ≤ 100000 := by
      have : (({ data := #[47] } : ByteArray) ++ wS K).size = 1 + (wS K).size := by rw [ByteArray.size_append]; rfl
      omega
    have REST : ∀ (B : Nat) (W : World) (x8 x11 : Value), w.heap.size ≤ B → Rx 46 W B ({ data := #[47] } ++ wS K) u s K h n t → Cx W w.heap.size u s K h n t → Below w.heap.size w W →
        K0 { tmps := #[cv u s K h n t, .pointer (some ⟨w.heap.size, 0, none⟩), .string ⟨#[]⟩, .int .i64 0, .pointer (some ⟨B, 0, none⟩), .agg #[.int .i64 u, .int .i64 s, .int .i64 K, .int .i64 h, .int .i64 n, .string t], .bool true, .bool false, x8, .pointer (some ⟨w.heap.size, 2, none⟩), .int .i64 K, x11, .string (wS K), .string ({ data := #[47] } ++ wS K), .agg #[.int .i64 u, .int .i64 s, .int .i64 K, .int .i64 h, .int .i64 n, .string t], .agg #[.string ({ data := #[47] } ++ wS K), .int .i64 u, .int .i64 s, .int .i64 K, .int .i64 h, .int .i64 n, .string t], undef, undef, undef, undef, undef, undef, undef, undef], defers := [] } W := by
      intro B W x8 x11 hB hr hcW hbW
      refine hK0 _ _ ?_
      clear hK0 HW c0 c1 c2 c3 c4 c5 hc b3 hlt
      have HT := Lib.hid (turnw_any w B K (by omega) _ u s h n t W hr hN hbW hB hsz2 ht (by omega) hn)
      rw [hnt] at HT
      obtain ⟨c0, c1, c2, c3, c4, c5⟩ := hcW.cl
      go_wp2_with fail
      refine HT.out.mono ?_
      rintro e w3 (⟨rfl, l', e', r', b'⟩ | ⟨c, -, hf⟩)
      · obtain ⟨z0, -⟩ := r'.cb
        go_wp2
        go_ret2
        exact ⟨⟨l', e', rfl⟩, b'⟩
      · exact hf.elim
    go_region_with (go_at_call 16; refine (HW _).out.mono ?_; rintro e w2 ⟨rfl, hrow, hb⟩; have hc2 : Cx w2 w.heap.size u s K h n t := (by first | exact arm1 hb hc | exact arm2 hb hc); (first | (have hr1 : w2.cell? ⟨w1.heap.size, K, none⟩ = some (.string (wS K)) := hrow; have hl4 : w1.heap.size < w2.heap.size := World.block_lt_of_cell? w2 _ hr1; have hl5 : w1.heap.size ≠ w2.heap.size := Nat.ne_of_lt hl4) | (have hr1 : w2.cell? ⟨w1.heap.size + 1, K, none⟩ = some (.string (wS K)) := row2 hrow; have hl4 : w1.heap.size + 1 < w2.heap.size := World.block_lt_of_cell? w2 _ hr1; have rw2 := wr2 hb; obtain ⟨z0, z1, z2, z3, z4, z5, z6⟩ := rw2.cb; have y0 := rw2.free 0; have y1 := rw2.free 1; have y2 := rw2.free 2; have y3 := rw2.free 3; have y4 := rw2.free 4; have y5 := rw2.free 5; have y6 := rw2.free 6)); have hl2 : w.heap.size < w2.heap.size := hc2.lt; have hl3 : w.heap.size ≠ w2.heap.size := Nat.ne_of_lt hl2; obtain ⟨d0, d1, d2, d3, d4, d5⟩ := hc2.cl)
    all_goals show K0 _ _
    all_goals first
      | exact REST w2.heap.size (w2.alloc _) _ _ (Nat.le_of_lt hl2) (nalloc_new w2 _) ((nalloc_old w2 _ hl2).trans hc2) (fin_b hb b3)
      | exact REST w1.heap.size (st7 w2 w1.heap.size _ _ _ _ _ _ _) _ _ (Nat.le_of_lt hlt) (fin_r rw2) (fin_c hc2 (Nat.ne_of_lt hlt)) (fin_b3 hb b3 hlt)
end Go.Proofs.YtpeieagfndggbaaDoor
