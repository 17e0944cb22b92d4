/-
  The walk of the document's Parse: what a line asks for, or what is wrong in it, is what the plain theory says. Conditions: at most 10^6 bytes.
-/
import Derived.Test.YtpeieagfndggbaaDoorRw
import Derived.Test.YtpeieagfndggbaaDoorRm
import Derived.Test.YtpeieagfndggbaaDoorRn
namespace Go.Proofs.YtpeieagfndggbaaDoor
open Go.RowKit Tx

theorem parse_wway (l : List Nat) : parse l = if (wway l).2.2 = 0 then rest (wway l).1 (wway l).2.1 else (Co.none, 2) := by
  unfold parse wway
  by_cases h : l.head? = some 47
  · rw [if_pos h, if_pos h]
    by_cases hk : kindOf (l.tail.takeWhile nots) = 0
    · rw [if_pos hk, if_pos hk]; rfl
    · rw [if_neg hk, if_neg hk]; rfl
  · rw [if_neg h, if_neg h]; rfl
theorem wway_err {l : List Nat} (h : (wway l).2.2 ≠ 0) : wway l = (0, [], 2) := by
  unfold wway at h ⊢
  by_cases h1 : l.head? = some 47
  · rw [if_pos h1] at h ⊢
    by_cases hk : kindOf (l.tail.takeWhile nots) = 0
    · rw [if_pos hk]
    · rw [if_neg hk] at h; exact absurd rfl h
  · rw [if_neg h1]
theorem wway_kind (l : List Nat) : (wway l).1 < 8 := by
  unfold wway
  by_cases h1 : l.head? = some 47
  · rw [if_pos h1]
    by_cases hk : kindOf (l.tail.takeWhile nots) = 0
    · rw [if_pos hk]; decide
    · rw [if_neg hk]; exact kindOf_lt _
  · rw [if_neg h1]; decide
theorem wway_len (l : List Nat) : (wway l).2.1.length ≤ l.length := by
  unfold wway
  by_cases h1 : l.head? = some 47
  · rw [if_pos h1]
    by_cases hk : kindOf (l.tail.takeWhile nots) = 0
    · rw [if_pos hk]; simp
    · rw [if_neg hk]
      have := (List.dropWhile_suffix (l := l.tail) nots).length_le
      rw [List.length_tail] at this
      show (l.tail.dropWhile nots).length ≤ _
      omega
  · rw [if_neg h1]; simp
theorem num_err {most : Nat} {l : List Nat} (h : (num most l).2.2 ≠ 0) : num most l = (0, [], (num most l).2.2) := by
  unfold num at h ⊢
  split
  · split
    · split
      · rfl
      · exfalso; rename_i h1 h2; simp only [h1, h2, if_false] at h; simp_all
    · rfl
  · rfl

theorem Cx.other {W : World} {A B i : Nat} {u s k h n : Int} {t : ByteArray} (v : Value) (hc : Cx W A u s k h n t) (hne : A ≠ B) : Cx (W.setCell ⟨B, i, none⟩ v) A u s k h n t := (Below.heap_setCell W ⟨B, i, none⟩ v A hne).trans hc
abbrev st6 (W : World) (B : Nat) (u s k h n : Int) (t : ByteArray) : World := (((((W.setCell ⟨B, 0, none⟩ (.int .i64 u)).setCell ⟨B, 1, none⟩ (.int .i64 s)).setCell ⟨B, 2, none⟩ (.int .i64 k)).setCell ⟨B, 3, none⟩ (.int .i64 h)).setCell ⟨B, 4, none⟩ (.int .i64 n)).setCell ⟨B, 5, none⟩ (.string t)
theorem st6_cx {W : World} {B : Nat} {u s k h n u' s' k' h' n' : Int} {t t' : ByteArray} (hc : Cx W B u' s' k' h' n' t') : Cx (st6 W B u s k h n t) B u s k h n t :=
  heap_setCell_same _ _ 5 _ 24 _ (heap_setCell_same _ _ 4 _ 24 _ (heap_setCell_same _ _ 3 _ 24 _ (heap_setCell_same _ _ 2 _ 24 _ (heap_setCell_same _ _ 1 _ 24 _ (heap_setCell_same W _ 0 _ 24 _ hc)))))
theorem st6_below {w W : World} {B : Nat} {u s k h n : Int} {t : ByteArray} (hb : Below w.heap.size w W) (hB : w.heap.size ≤ B) : Below w.heap.size w (st6 W B u s k h n t) := by
  have hs : ∀ (W : World) (i : Nat) (v : Value), Below w.heap.size w W → Below w.heap.size w (W.setCell ⟨B, i, none⟩ v) := fun W i v q => q.setCell (p := ⟨B, i, none⟩) hB v
  exact hs _ _ _ (hs _ _ _ (hs _ _ _ (hs _ _ _ (hs _ _ _ (hs _ _ _ hb)))))
theorem ret11 {V : World} {tm : Array Value} {A : Nat} {Q : Ending → World → Prop} {u s k h n x : Int} {t : ByteArray} (h2 : tm[2]?.getD undef = .pointer (some ⟨A, 0, none⟩)) (h3 : tm[3]?.getD undef = .int .i64 x) (hb : Cx V A u s k h n t) (hQ : Q (.returned (.tuple #[cv u s k h n t, .int .i64 x])) V) :
    bodyPost Tryd.prog Tryd.f11 Q Exit.ret { tmps := tm, defers := [] } V := by
  obtain ⟨c0, c1, c2, c3, c4, c5⟩ := hb.cb
  exact bodyPost_ret (by simp [results, Tryd.results11, h2, h3, go_sem, c0, c1, c2, c3, c4, c5]; first | done | rfl) rfl hQ
/-- The two boxes of the document's Parse: what it answers, and 'none'. -/
structure S10 (w0 W : World) : Prop where
  c : Cx W w0.heap.size 0 0 0 0 0 ⟨#[]⟩
  n : Cx W (w0.heap.size + 1) 0 0 0 0 0 ⟨#[]⟩
  b : Below w0.heap.size w0 W
theorem S10.call {w0 W W' : World} (s : S10 w0 W) (hb : Below W.heap.size W W') : S10 w0 W' := ⟨s.c.on hb s.c.lt, s.n.on hb s.n.lt, s.b.trans (hb.mono s.b.size)⟩
theorem S10.start (w : World) : S10 w ((w.alloc (.cells #[.int .i64 0, .int .i64 0, .int .i64 0, .int .i64 0, .int .i64 0, .string ⟨#[]⟩] 24)).alloc (.cells #[.int .i64 0, .int .i64 0, .int .i64 0, .int .i64 0, .int .i64 0, .string ⟨#[]⟩] 24)) := by
  have z1 : (w.alloc (.cells #[.int .i64 0, .int .i64 0, .int .i64 0, .int .i64 0, .int .i64 0, .string ⟨#[]⟩] 24)).heap.size = w.heap.size + 1 := by simp
  have n1 := nalloc_new w (.cells #[.int .i64 0, .int .i64 0, .int .i64 0, .int .i64 0, .int .i64 0, .string ⟨#[]⟩] 24)
  have b1 : Below w.heap.size w (w.alloc (.cells #[.int .i64 0, .int .i64 0, .int .i64 0, .int .i64 0, .int .i64 0, .string ⟨#[]⟩] 24)) := (Below.refl _ _).alloc (Nat.le_refl _) _
  generalize w.alloc (.cells #[.int .i64 0, .int .i64 0, .int .i64 0, .int .i64 0, .int .i64 0, .string ⟨#[]⟩] 24) = w1 at *
  have n2 := nalloc_new w1 (.cells #[.int .i64 0, .int .i64 0, .int .i64 0, .int .i64 0, .int .i64 0, .string ⟨#[]⟩] 24)
  rw [z1] at n2
  exact ⟨(nalloc_old w1 _ (by omega)).trans n1, n2, b1.alloc (by omega) _⟩
theorem S10.leave {w W : World} {x : Nat} {tm : Array Value} (s : S10 w W) (h2 : tm[2]?.getD undef = .pointer (some ⟨w.heap.size, 0, none⟩)) (h3 : tm[3]?.getD undef = .int .i64 x) :
    bodyPost Tryd.prog Tryd.f11 (PaPost w Co.none x) Exit.ret { tmps := tm, defers := [] } (st6 W w.heap.size 0 0 0 0 0 ⟨#[]⟩) :=
  ret11 h2 h3 (st6_cx s.c) ⟨⟨⟨#[]⟩, rfl, rfl⟩, st6_below s.b (Nat.le_refl _)⟩
/-- The three boxes: the command besides. -/
structure S11 (w0 W : World) (B : Nat) (k h n : Int) (t : ByteArray) : Prop where
  o : S10 w0 W
  x : Cx W B 0 0 k h n t
  g : w0.heap.size + 1 < B
theorem S11.call {w0 W W' : World} {B : Nat} {k h n : Int} {t : ByteArray} (s : S11 w0 W B k h n t) (hb : Below W.heap.size W W') : S11 w0 W' B k h n t := ⟨s.o.call hb, s.x.on hb s.x.lt, s.g⟩
theorem S11.start {w0 W : World} (s : S10 w0 W) (K : Int) : S11 w0 (W.alloc (.cells #[.int .i64 0, .int .i64 0, .int .i64 K, .int .i64 0, .int .i64 0, .string ⟨#[]⟩] 24)) W.heap.size K 0 0 ⟨#[]⟩ :=
  ⟨⟨(nalloc_old W _ s.c.lt).trans s.c, (nalloc_old W _ s.n.lt).trans s.n, s.b.alloc s.b.size _⟩, nalloc_new W _, s.n.lt⟩
theorem S10.set {w0 W : World} {B i : Nat} (s : S10 w0 W) (hB : w0.heap.size + 1 < B) (v : Value) : S10 w0 (W.setCell ⟨B, i, none⟩ v) :=
  ⟨s.c.other v (by omega), s.n.other v (by omega), s.b.setCell (p := ⟨B, i, none⟩) (by show w0.heap.size ≤ B; omega) v⟩
theorem S11.seth {w0 W : World} {B : Nat} {k h n : Int} {t : ByteArray} (s : S11 w0 W B k h n t) (h' : Int) : S11 w0 (W.setCell ⟨B, 3, none⟩ (.int .i64 h')) B k h' n t := ⟨s.o.set s.g _, heap_setCell_same W B 3 _ 24 _ s.x, s.g⟩
theorem S11.setn {w0 W : World} {B : Nat} {k h n : Int} {t : ByteArray} (s : S11 w0 W B k h n t) (n' : Int) : S11 w0 (W.setCell ⟨B, 4, none⟩ (.int .i64 n')) B k h n' t := ⟨s.o.set s.g _, heap_setCell_same W B 4 _ 24 _ s.x, s.g⟩
theorem S11.sett {w0 W : World} {B : Nat} {k h n : Int} {t : ByteArray} (s : S11 w0 W B k h n t) (t' : ByteArray) : S11 w0 (W.setCell ⟨B, 5, none⟩ (.string t')) B k h n t' := ⟨s.o.set s.g _, heap_setCell_same W B 5 _ 24 _ s.x, s.g⟩
theorem S11.leave {w W : World} {B K H M : Nat} {t : ByteArray} {T : List Nat} {tm : Array Value} (s : S11 w W B K H M t) (hT : nt t = T) (h2 : tm[2]?.getD undef = .pointer (some ⟨w.heap.size, 0, none⟩)) (h3 : tm[3]?.getD undef = .int .i64 0) :
    bodyPost Tryd.prog Tryd.f11 (PaPost w ⟨K, H, M, T⟩ 0) Exit.ret { tmps := tm, defers := [] } (st6 W w.heap.size 0 0 K H M t) :=
  ret11 h2 h3 (st6_cx s.o.c) ⟨⟨t, hT, rfl⟩, st6_below s.o.b (Nat.le_refl _)⟩
theorem rest_err {K : Nat} {R : List Nat} (h : (num 1048576 R).2.2 ≠ 0) : rest K R = (Co.none, (num 1048576 R).2.2) := by unfold rest; rw [if_pos h]
theorem rest_plain {K : Nat} {R : List Nat} (h : (num 1048576 R).2.2 = 0) (hn : numbered K = false) : rest K R = ends K (num 1048576 R).1 0 (num 1048576 R).2.1 := by
  unfold rest; rw [if_neg (by rw [h]; decide), if_neg (by rw [hn]; decide)]
theorem rest_err2 {K : Nat} {R : List Nat} (h : (num 1048576 R).2.2 = 0) (hn : numbered K = true) (h2 : (num 1073741824 (num 1048576 R).2.1).2.2 ≠ 0) : rest K R = (Co.none, (num 1073741824 (num 1048576 R).2.1).2.2) := by
  unfold rest; rw [if_neg (by rw [h]; decide), if_pos hn, if_pos h2]
theorem rest_num {K : Nat} {R : List Nat} (h : (num 1048576 R).2.2 = 0) (hn : numbered K = true) (h2 : (num 1073741824 (num 1048576 R).2.1).2.2 = 0) : rest K R = ends K (num 1048576 R).1 (num 1073741824 (num 1048576 R).2.1).1 (num 1073741824 (num 1048576 R).2.1).2.1 := by
  unfold rest; rw [if_neg (by rw [h]; decide), if_pos hn, if_neg (by rw [h2]; decide)]
theorem ends_headless {k ch n : Nat} {l : List Nat} (hw : worded k = true) (h : l.head? ≠ some 32) : ends k ch n l = (Co.none, 2) := by unfold ends; rw [if_pos hw, if_neg h]
theorem ends_long {k ch n : Nat} {l : List Nat} (hw : worded k = true) (h : l.head? = some 32) (h2 : 64 < l.tail.length) : ends k ch n l = (Co.none, 7) := by unfold ends; rw [if_pos hw, if_pos h, if_pos h2]
theorem ends_may {k ch n : Nat} {l : List Nat} (hw : worded k = true) (h : l.head? = some 32) (h2 : ¬ 64 < l.tail.length) (h3 : may l.tail = false) : ends k ch n l = (Co.none, 2) := by unfold ends; rw [if_pos hw, if_pos h, if_neg h2, if_neg (by rw [h3]; decide)]

set_option maxHeartbeats 4000000 in
set_option maxRecDepth 100000 in
theorem rparse_any (s : ByteArray) (w : World) (hs : s.size ≤ 1000000) : Calls Tryd.prog 11 #[.string s] w (PaPost w (parse (nt s)).1 (parse (nt s)).2) := by
  obtain ⟨c, x, hcx⟩ : ∃ c x, parse (nt s) = (c, x) := ⟨_, _, rfl⟩
  rw [hcx]
  show Calls Tryd.prog 11 #[.string s] w (PaPost w c x)
  rw [parse_wway] at hcx
  have hk := wway_kind (nt s)
  have hl := wway_len (nt s)
  have he := wway_err (l := nt s)
  have H26 := fun W => Lib.hid (rword_line s W hs)
  obtain ⟨⟨K, R, x1⟩, hr⟩ : ∃ r, wway (nt s) = r := ⟨_, rfl⟩
  rw [hr] at hcx hk hl he H26
  rw [nt_len] at hl
  have hk : K < 8 := hk
  have hl : R.length ≤ s.size := hl
  by_cases h1 : x1 = 0
  · subst h1
    rw [if_pos rfl] at hcx
    have hcx : rest K R = (c, x) := hcx
    clear he hr
    go_enter Tryd.func11, Tryd.ntmps11
    go_wp2_with fail
    have s0 := S10.start w
    generalize (w.alloc (.cells #[.int .i64 0, .int .i64 0, .int .i64 0, .int .i64 0, .int .i64 0, .string ⟨#[]⟩] 24)).alloc (.cells #[.int .i64 0, .int .i64 0, .int .i64 0, .int .i64 0, .int .i64 0, .string ⟨#[]⟩] 24) = W0 at *
    refine (H26 _).out.mono ?_
    rintro e w1 ⟨⟨l1, ht1, rfl⟩, b1⟩
    have s1 := s0.call b1
    obtain rfl : nt l1 = R := ht1
    have hl1 : l1.size ≤ 1000000 := by rw [nt_len] at hl; omega
    clear b1 s0 H26 hl
    have s2 := S11.start s1 K
    have H27 : ∀ W, Hid (Calls Tryd.prog 27 #[.string l1, .int .i64 1048576] W (RuPost W (num 1048576 (nt l1)))) := fun W => Lib.hid (rnumber_any l1 1048576 W hl1)
    have hnl := num_len 1048576 (nt l1)
    by_cases h2 : (num 1048576 (nt l1)).2.2 = 0
    · obtain ⟨⟨h, R2, y2⟩, hr2⟩ : ∃ r, num 1048576 (nt l1) = r := ⟨_, rfl⟩
      have hp := fun q => rest_plain (K := K) h2 q
      have hq := fun q => rest_err2 (K := K) h2 q
      have hn := fun q => rest_num (K := K) h2 q
      rw [hr2] at h2 hp hq hn hnl H27
      obtain rfl : y2 = 0 := h2
      have hnl : R2.length ≤ (nt l1).length := hnl
      clear hr2
      go_wp2_with fail
      generalize w1.alloc (.cells #[.int .i64 0, .int .i64 0, .int .i64 K, .int .i64 0, .int .i64 0, .string ⟨#[]⟩] 24) = w2 at *
      refine (H27 _).out.mono ?_
      rintro e w3 ⟨⟨l2, ht2, rfl⟩, b3⟩
      have s3 := s2.call b3
      obtain rfl : nt l2 = R2 := ht2
      have hl2 : l2.size ≤ 1000000 := by rw [nt_len, nt_len] at hnl; omega
      clear b3 s2 H27 hnl s1
      have H28 := fun W => Lib.hid (rnumb_any K W)
      generalize w1.heap.size = B at *
      cases hnb : numbered K
      · rw [hnb] at H28
        have hE : ends K h 0 (nt l2) = (c, x) := (hp hnb).symm.trans hcx
        clear hp hq hn hnb hcx
        obtain ⟨x0, x1, x2, x3, x4, x5⟩ := s3.x.cl
        have y3 := s3.x.free 3
        go_wp2_with fail
        clear x0 x1 x2 x3 x4 x5 y3
        have s4 := s3.seth h
        generalize World.setCell _ _ (.int .i64 (h : Int)) = w4 at *
        refine (H28 _).out.mono ?_
        rintro e w5 ⟨rfl, rfl⟩
        clear H28 s3
        go_wp2_with fail
        have H29 := fun W => Lib.hid (rword_any K W)
        obtain ⟨eC, eX⟩ : (ends K h 0 (nt l2)).1 = c ∧ (ends K h 0 (nt l2)).2 = x := by rw [hE]; exact ⟨rfl, rfl⟩
        cases hw : worded K
        · rw [hw] at H29
          by_cases hz : l2.size = 0
          · have i0 : ¬ (0 : Int) < (l2.size : Int) := by omega
            have hz' : nt l2 = [] := List.length_eq_zero_iff.1 (by rw [nt_len]; exact hz)
            rw [hz', ends_nil hw] at eC eX
            subst eC eX
            clear hE hw hz hz'
            obtain ⟨c0, c1, c2, c3, c4, c5⟩ := s4.o.c.cl
            obtain ⟨n0, n1, n2, n3, n4, n5⟩ := s4.o.n.cl
            have g0 := s4.o.c.free 0
            have g1 := s4.o.c.free 1
            have g2 := s4.o.c.free 2
            have g3 := s4.o.c.free 3
            have g4 := s4.o.c.free 4
            have g5 := s4.o.c.free 5
            obtain ⟨x0, x1, x2, x3, x4, x5⟩ := s4.x.cl
            refine (H29 _).out.mono ?_
            rintro e w9 ⟨rfl, rfl⟩
            go_wp2
            exact S11.leave s4 rfl rfl rfl
          · have i0 : (0 : Int) < (l2.size : Int) := by omega
            have hz' : nt l2 ≠ [] := fun q => hz (by rw [← nt_len, q]; rfl)
            rw [ends_left hw hz'] at eC eX
            subst eC eX
            clear hE hw hz hz'
            obtain ⟨c0, c1, c2, c3, c4, c5⟩ := s4.o.c.cl
            obtain ⟨n0, n1, n2, n3, n4, n5⟩ := s4.o.n.cl
            have g0 := s4.o.c.free 0
            have g1 := s4.o.c.free 1
            have g2 := s4.o.c.free 2
            have g3 := s4.o.c.free 3
            have g4 := s4.o.c.free 4
            have g5 := s4.o.c.free 5
            refine (H29 _).out.mono ?_
            rintro e w9 ⟨rfl, rfl⟩
            go_wp2
            exact S10.leave s4.o rfl rfl
        · rw [hw] at H29
          by_cases hz : l2.size = 0
          · have i0 : ((l2.size : Int) == 0) = true := beq_iff_eq.2 (by omega)
            have hz' : nt l2 = [] := List.length_eq_zero_iff.1 (by rw [nt_len]; exact hz)
            rw [ends_headless hw (by rw [hz']; decide)] at eC eX
            subst eC eX
            clear hE hw hz hz'
            obtain ⟨c0, c1, c2, c3, c4, c5⟩ := s4.o.c.cl
            obtain ⟨n0, n1, n2, n3, n4, n5⟩ := s4.o.n.cl
            have g0 := s4.o.c.free 0
            have g1 := s4.o.c.free 1
            have g2 := s4.o.c.free 2
            have g3 := s4.o.c.free 3
            have g4 := s4.o.c.free 4
            have g5 := s4.o.c.free 5
            refine (H29 _).out.mono ?_
            rintro e w9 ⟨rfl, rfl⟩
            go_wp2
            exact S10.leave s4.o rfl rfl
          · have i0 : ((l2.size : Int) == 0) = false := beq_eq_false_iff_ne.2 (by omega)
            have hz0 : 0 < l2.size := by omega
            have hh : (nt l2).head? = some (l2[0]'hz0).toNat := by rw [List.head?_eq_getElem?]; exact byte_get hz0
            have htl : nt (l2.extract 1 l2.size) = (nt l2).tail := by rw [nt_hd, List.drop_one]
            have htn : (nt l2).tail.length = l2.size - 1 := by rw [List.length_tail, nt_len]
            obtain ⟨A, hA⟩ : ∃ A : Nat, A = (l2[0]'hz0).toNat := ⟨_, rfl⟩
            have hAI : (((l2[0]'hz0).toNat : Nat) : Int) = A := by rw [hA]
            rw [← hA] at hh
            clear hA
            by_cases h32 : A = 32
            · have q32 : ((A : Int) != 32) = false := by simp; omega
              rw [h32] at hh
              by_cases hlo : 64 < l2.size - 1
              · have i1 : 64 < (l2.size : Int) - 1 := by omega
                rw [ends_long hw hh (by rw [htn]; exact hlo)] at eC eX
                subst eC eX
                clear hE hw hh htl htn h32
                obtain ⟨c0, c1, c2, c3, c4, c5⟩ := s4.o.c.cl
                obtain ⟨n0, n1, n2, n3, n4, n5⟩ := s4.o.n.cl
                have g0 := s4.o.c.free 0
                have g1 := s4.o.c.free 1
                have g2 := s4.o.c.free 2
                have g3 := s4.o.c.free 3
                have g4 := s4.o.c.free 4
                have g5 := s4.o.c.free 5
                refine (H29 _).out.mono ?_
                rintro e w9 ⟨rfl, rfl⟩
                go_wp2
                exact S10.leave s4.o rfl rfl
              · have i1 : ¬ 64 < (l2.size : Int) - 1 := by omega
                have i2 : (1 : Int) ≤ (l2.size : Int) := by omega
                have H13 := fun W => Lib.hid (rmay_any (l2.extract 1 l2.size) W)
                rw [htl] at H13
                obtain ⟨T, hT⟩ : ∃ T, T = l2.extract 1 l2.size := ⟨_, rfl⟩
                have hT' : l2.extract 1 l2.size = T := hT.symm
                clear hT
                cases hm : may (nt l2).tail
                · rw [hm] at H13
                  rw [ends_may hw hh (by rw [htn]; exact hlo) hm] at eC eX
                  subst eC eX
                  rw [hT'] at H13
                  clear hE hw hh htl htn h32 hm
                  obtain ⟨x0, x1, x2, x3, x4, x5⟩ := s4.x.cl
                  have y5 := s4.x.free 5
                  refine (H29 _).out.mono ?_
                  rintro e w9 ⟨rfl, rfl⟩
                  go_wp2_with fail
                  clear x0 x1 x2 x3 x4 x5 y5
                  have S9 := s4.sett T
                  generalize World.setCell _ _ (.string T) = W9 at *
                  refine (H13 _).out.mono ?_
                  rintro e w10 ⟨rfl, rfl⟩
                  obtain ⟨c0, c1, c2, c3, c4, c5⟩ := S9.o.c.cl
                  obtain ⟨n0, n1, n2, n3, n4, n5⟩ := S9.o.n.cl
                  have g0 := S9.o.c.free 0
                  have g1 := S9.o.c.free 1
                  have g2 := S9.o.c.free 2
                  have g3 := S9.o.c.free 3
                  have g4 := S9.o.c.free 4
                  have g5 := S9.o.c.free 5
                  go_wp2
                  exact S10.leave S9.o rfl rfl
                · rw [hm] at H13
                  rw [ends_text hw ⟨hh, hm⟩, ← htl, hT'] at eC eX
                  subst eC eX
                  rw [hT'] at H13
                  clear hE hw hh htl htn h32 hm
                  obtain ⟨x0, x1, x2, x3, x4, x5⟩ := s4.x.cl
                  have y5 := s4.x.free 5
                  refine (H29 _).out.mono ?_
                  rintro e w9 ⟨rfl, rfl⟩
                  go_wp2_with fail
                  clear x0 x1 x2 x3 x4 x5 y5
                  have S9 := s4.sett T
                  generalize World.setCell _ _ (.string T) = W9 at *
                  refine (H13 _).out.mono ?_
                  rintro e w10 ⟨rfl, rfl⟩
                  obtain ⟨c0, c1, c2, c3, c4, c5⟩ := S9.o.c.cl
                  obtain ⟨n0, n1, n2, n3, n4, n5⟩ := S9.o.n.cl
                  have g0 := S9.o.c.free 0
                  have g1 := S9.o.c.free 1
                  have g2 := S9.o.c.free 2
                  have g3 := S9.o.c.free 3
                  have g4 := S9.o.c.free 4
                  have g5 := S9.o.c.free 5
                  obtain ⟨x0, x1, x2, x3, x4, x5⟩ := S9.x.cl
                  go_wp2
                  exact S11.leave S9 rfl rfl rfl
            · have q32 : ((A : Int) != 32) = true := by simp; omega
              rw [ends_headless hw (by rw [hh]; simpa using h32)] at eC eX
              subst eC eX
              clear hE hw hh htl htn h32
              obtain ⟨c0, c1, c2, c3, c4, c5⟩ := s4.o.c.cl
              obtain ⟨n0, n1, n2, n3, n4, n5⟩ := s4.o.n.cl
              have g0 := s4.o.c.free 0
              have g1 := s4.o.c.free 1
              have g2 := s4.o.c.free 2
              have g3 := s4.o.c.free 3
              have g4 := s4.o.c.free 4
              have g5 := s4.o.c.free 5
              refine (H29 _).out.mono ?_
              rintro e w9 ⟨rfl, rfl⟩
              go_wp2
              exact S10.leave s4.o rfl rfl
      · rw [hnb] at H28
        have hnl := num_len 1073741824 (nt l2)
        have H27 : ∀ W, Hid (Calls Tryd.prog 27 #[.string l2, .int .i64 1073741824] W (RuPost W (num 1073741824 (nt l2)))) := fun W => Lib.hid (rnumber_any l2 1073741824 W hl2)
        have hq : (num 1073741824 (nt l2)).2.2 ≠ 0 → rest K (nt l1) = (Co.none, (num 1073741824 (nt l2)).2.2) := hq hnb
        have hn : (num 1073741824 (nt l2)).2.2 = 0 → rest K (nt l1) = ends K h (num 1073741824 (nt l2)).1 (num 1073741824 (nt l2)).2.1 := hn hnb
        have herr := num_err (most := 1073741824) (l := nt l2)
        rw [hcx] at hq hn
        clear hp hnb hcx
        generalize num 1073741824 (nt l2) = r at *
        obtain ⟨n, R3, y3⟩ := r
        by_cases h3 : y3 = 0
        · subst h3
          have hE : ends K h n R3 = (c, x) := (hn rfl).symm
          have hnl : R3.length ≤ (nt l2).length := hnl
          clear hq hn herr
          obtain ⟨x0, x1, x2, x3, x4, x5⟩ := s3.x.cl
          have y3 := s3.x.free 3
          go_wp2_with fail
          clear x0 x1 x2 x3 x4 x5 y3
          have s4 := s3.seth h
          generalize World.setCell _ _ (.int .i64 (h : Int)) = w4 at *
          refine (H28 _).out.mono ?_
          rintro e w5 ⟨rfl, rfl⟩
          clear H28 s3
          go_wp2_with fail
          refine (H27 _).out.mono ?_
          rintro e w6 ⟨⟨l3, ht3, rfl⟩, b6⟩
          have s6 := s4.call b6
          obtain rfl : nt l3 = R3 := ht3
          have hl3 : l3.size ≤ 1000000 := by rw [nt_len, nt_len] at hnl; omega
          clear b6 s4 H27 hnl
          obtain ⟨x0, x1, x2, x3, x4, x5⟩ := s6.x.cl
          have y4 := s6.x.free 4
          go_wp2_with fail
          clear x0 x1 x2 x3 x4 x5 y4
          have s7 := s6.setn n
          generalize World.setCell _ _ (.int .i64 (n : Int)) = w7 at *
          clear s6
          have H29 := fun W => Lib.hid (rword_any K W)
          obtain ⟨eC, eX⟩ : (ends K h n (nt l3)).1 = c ∧ (ends K h n (nt l3)).2 = x := by rw [hE]; exact ⟨rfl, rfl⟩
          cases hw : worded K
          · rw [hw] at H29
            by_cases hz : l3.size = 0
            · have i0 : ¬ (0 : Int) < (l3.size : Int) := by omega
              have hz' : nt l3 = [] := List.length_eq_zero_iff.1 (by rw [nt_len]; exact hz)
              rw [hz', ends_nil hw] at eC eX
              subst eC eX
              clear hE hw hz hz'
              obtain ⟨c0, c1, c2, c3, c4, c5⟩ := s7.o.c.cl
              obtain ⟨n0, n1, n2, n3, n4, n5⟩ := s7.o.n.cl
              have g0 := s7.o.c.free 0
              have g1 := s7.o.c.free 1
              have g2 := s7.o.c.free 2
              have g3 := s7.o.c.free 3
              have g4 := s7.o.c.free 4
              have g5 := s7.o.c.free 5
              obtain ⟨x0, x1, x2, x3, x4, x5⟩ := s7.x.cl
              refine (H29 _).out.mono ?_
              rintro e w9 ⟨rfl, rfl⟩
              go_wp2
              exact S11.leave s7 rfl rfl rfl
            · have i0 : (0 : Int) < (l3.size : Int) := by omega
              have hz' : nt l3 ≠ [] := fun q => hz (by rw [← nt_len, q]; rfl)
              rw [ends_left hw hz'] at eC eX
              subst eC eX
              clear hE hw hz hz'
              obtain ⟨c0, c1, c2, c3, c4, c5⟩ := s7.o.c.cl
              obtain ⟨n0, n1, n2, n3, n4, n5⟩ := s7.o.n.cl
              have g0 := s7.o.c.free 0
              have g1 := s7.o.c.free 1
              have g2 := s7.o.c.free 2
              have g3 := s7.o.c.free 3
              have g4 := s7.o.c.free 4
              have g5 := s7.o.c.free 5
              refine (H29 _).out.mono ?_
              rintro e w9 ⟨rfl, rfl⟩
              go_wp2
              exact S10.leave s7.o rfl rfl
          · rw [hw] at H29
            by_cases hz : l3.size = 0
            · have i0 : ((l3.size : Int) == 0) = true := beq_iff_eq.2 (by omega)
              have hz' : nt l3 = [] := List.length_eq_zero_iff.1 (by rw [nt_len]; exact hz)
              rw [ends_headless hw (by rw [hz']; decide)] at eC eX
              subst eC eX
              clear hE hw hz hz'
              obtain ⟨c0, c1, c2, c3, c4, c5⟩ := s7.o.c.cl
              obtain ⟨n0, n1, n2, n3, n4, n5⟩ := s7.o.n.cl
              have g0 := s7.o.c.free 0
              have g1 := s7.o.c.free 1
              have g2 := s7.o.c.free 2
              have g3 := s7.o.c.free 3
              have g4 := s7.o.c.free 4
              have g5 := s7.o.c.free 5
              refine (H29 _).out.mono ?_
              rintro e w9 ⟨rfl, rfl⟩
              go_wp2
              exact S10.leave s7.o rfl rfl
            · have i0 : ((l3.size : Int) == 0) = false := beq_eq_false_iff_ne.2 (by omega)
              have hz0 : 0 < l3.size := by omega
              have hh : (nt l3).head? = some (l3[0]'hz0).toNat := by rw [List.head?_eq_getElem?]; exact byte_get hz0
              have htl : nt (l3.extract 1 l3.size) = (nt l3).tail := by rw [nt_hd, List.drop_one]
              have htn : (nt l3).tail.length = l3.size - 1 := by rw [List.length_tail, nt_len]
              obtain ⟨A, hA⟩ : ∃ A : Nat, A = (l3[0]'hz0).toNat := ⟨_, rfl⟩
              have hAI : (((l3[0]'hz0).toNat : Nat) : Int) = A := by rw [hA]
              rw [← hA] at hh
              clear hA
              by_cases h32 : A = 32
              · have q32 : ((A : Int) != 32) = false := by simp; omega
                rw [h32] at hh
                by_cases hlo : 64 < l3.size - 1
                · have i1 : 64 < (l3.size : Int) - 1 := by omega
                  rw [ends_long hw hh (by rw [htn]; exact hlo)] at eC eX
                  subst eC eX
                  clear hE hw hh htl htn h32
                  obtain ⟨c0, c1, c2, c3, c4, c5⟩ := s7.o.c.cl
                  obtain ⟨n0, n1, n2, n3, n4, n5⟩ := s7.o.n.cl
                  have g0 := s7.o.c.free 0
                  have g1 := s7.o.c.free 1
                  have g2 := s7.o.c.free 2
                  have g3 := s7.o.c.free 3
                  have g4 := s7.o.c.free 4
                  have g5 := s7.o.c.free 5
                  refine (H29 _).out.mono ?_
                  rintro e w9 ⟨rfl, rfl⟩
                  go_wp2
                  exact S10.leave s7.o rfl rfl
                · have i1 : ¬ 64 < (l3.size : Int) - 1 := by omega
                  have i2 : (1 : Int) ≤ (l3.size : Int) := by omega
                  have H13 := fun W => Lib.hid (rmay_any (l3.extract 1 l3.size) W)
                  rw [htl] at H13
                  obtain ⟨T, hT⟩ : ∃ T, T = l3.extract 1 l3.size := ⟨_, rfl⟩
                  have hT' : l3.extract 1 l3.size = T := hT.symm
                  clear hT
                  cases hm : may (nt l3).tail
                  · rw [hm] at H13
                    rw [ends_may hw hh (by rw [htn]; exact hlo) hm] at eC eX
                    subst eC eX
                    rw [hT'] at H13
                    clear hE hw hh htl htn h32 hm
                    obtain ⟨x0, x1, x2, x3, x4, x5⟩ := s7.x.cl
                    have y5 := s7.x.free 5
                    refine (H29 _).out.mono ?_
                    rintro e w9 ⟨rfl, rfl⟩
                    go_wp2_with fail
                    clear x0 x1 x2 x3 x4 x5 y5
                    have S9 := s7.sett T
                    generalize World.setCell _ _ (.string T) = W9 at *
                    refine (H13 _).out.mono ?_
                    rintro e w10 ⟨rfl, rfl⟩
                    obtain ⟨c0, c1, c2, c3, c4, c5⟩ := S9.o.c.cl
                    obtain ⟨n0, n1, n2, n3, n4, n5⟩ := S9.o.n.cl
                    have g0 := S9.o.c.free 0
                    have g1 := S9.o.c.free 1
                    have g2 := S9.o.c.free 2
                    have g3 := S9.o.c.free 3
                    have g4 := S9.o.c.free 4
                    have g5 := S9.o.c.free 5
                    go_wp2
                    exact S10.leave S9.o rfl rfl
                  · rw [hm] at H13
                    rw [ends_text hw ⟨hh, hm⟩, ← htl, hT'] at eC eX
                    subst eC eX
                    rw [hT'] at H13
                    clear hE hw hh htl htn h32 hm
                    obtain ⟨x0, x1, x2, x3, x4, x5⟩ := s7.x.cl
                    have y5 := s7.x.free 5
                    refine (H29 _).out.mono ?_
                    rintro e w9 ⟨rfl, rfl⟩
                    go_wp2_with fail
                    clear x0 x1 x2 x3 x4 x5 y5
                    have S9 := s7.sett T
                    generalize World.setCell _ _ (.string T) = W9 at *
                    refine (H13 _).out.mono ?_
                    rintro e w10 ⟨rfl, rfl⟩
                    obtain ⟨c0, c1, c2, c3, c4, c5⟩ := S9.o.c.cl
                    obtain ⟨n0, n1, n2, n3, n4, n5⟩ := S9.o.n.cl
                    have g0 := S9.o.c.free 0
                    have g1 := S9.o.c.free 1
                    have g2 := S9.o.c.free 2
                    have g3 := S9.o.c.free 3
                    have g4 := S9.o.c.free 4
                    have g5 := S9.o.c.free 5
                    obtain ⟨x0, x1, x2, x3, x4, x5⟩ := S9.x.cl
                    go_wp2
                    exact S11.leave S9 rfl rfl rfl
              · have q32 : ((A : Int) != 32) = true := by simp; omega
                rw [ends_headless hw (by rw [hh]; simpa using h32)] at eC eX
                subst eC eX
                clear hE hw hh htl htn h32
                obtain ⟨c0, c1, c2, c3, c4, c5⟩ := s7.o.c.cl
                obtain ⟨n0, n1, n2, n3, n4, n5⟩ := s7.o.n.cl
                have g0 := s7.o.c.free 0
                have g1 := s7.o.c.free 1
                have g2 := s7.o.c.free 2
                have g3 := s7.o.c.free 3
                have g4 := s7.o.c.free 4
                have g5 := s7.o.c.free 5
                refine (H29 _).out.mono ?_
                rintro e w9 ⟨rfl, rfl⟩
                go_wp2
                exact S10.leave s7.o rfl rfl
        · have herr : (n, R3, y3) = (0, [], y3) := herr h3
          obtain ⟨en, her2⟩ := Prod.mk.inj herr
          obtain ⟨eR, -⟩ := Prod.mk.inj her2
          obtain ⟨eC, eX⟩ := Prod.mk.inj (hq h3)
          have eX : x = y3 := eX
          clear herr her2
          subst eC eX en eR
          have q3 : ((x : Int) != 0) = true := by simp; omega
          clear hq hn h3 hnl
          obtain ⟨x0, x1, x2, x3, x4, x5⟩ := s3.x.cl
          have y3 := s3.x.free 3
          go_wp2_with fail
          clear x0 x1 x2 x3 x4 x5 y3
          have s4 := s3.seth h
          generalize World.setCell _ _ (.int .i64 (h : Int)) = w4 at *
          refine (H28 _).out.mono ?_
          rintro e w5 ⟨rfl, rfl⟩
          clear H28 s3
          go_wp2_with fail
          refine (H27 _).out.mono ?_
          rintro e w6 ⟨⟨l3, ht3, rfl⟩, b6⟩
          have s6 := s4.call b6
          clear b6 s4 H27 ht3
          obtain ⟨c0, c1, c2, c3, c4, c5⟩ := s6.o.c.cl
          obtain ⟨n0, n1, n2, n3, n4, n5⟩ := s6.o.n.cl
          have g0 := s6.o.c.free 0
          have g1 := s6.o.c.free 1
          have g2 := s6.o.c.free 2
          have g3 := s6.o.c.free 3
          have g4 := s6.o.c.free 4
          have g5 := s6.o.c.free 5
          go_wp2
          exact s6.o.leave rfl rfl
    · have hE := rest_err (K := K) h2
      rw [hcx] at hE
      have herr := num_err h2
      generalize num 1048576 (nt l1) = r at *
      rw [herr] at H27
      obtain ⟨eC, eX⟩ := Prod.mk.inj hE
      generalize r.2.2 = y at *
      subst eC eX
      have q2 : ((x : Int) != 0) = true := by simp; omega
      clear hE hcx herr hnl h2 r
      go_wp2_with fail
      generalize w1.alloc (.cells #[.int .i64 0, .int .i64 0, .int .i64 K, .int .i64 0, .int .i64 0, .string ⟨#[]⟩] 24) = w2 at *
      refine (H27 _).out.mono ?_
      rintro e w3 ⟨⟨l2, ht2, rfl⟩, b3⟩
      have s3 := s2.call b3
      clear b3 s2 H27 ht2
      obtain ⟨c0, c1, c2, c3, c4, c5⟩ := s3.o.c.cl
      obtain ⟨n0, n1, n2, n3, n4, n5⟩ := s3.o.n.cl
      have g0 := s3.o.c.free 0
      have g1 := s3.o.c.free 1
      have g2 := s3.o.c.free 2
      have g3 := s3.o.c.free 3
      have g4 := s3.o.c.free 4
      have g5 := s3.o.c.free 5
      go_wp2
      exact s3.o.leave rfl rfl
  · obtain ⟨rfl, rfl, rfl⟩ : K = 0 ∧ R = [] ∧ x1 = 2 := by
      have := he h1
      obtain ⟨a, b⟩ := Prod.mk.inj this
      obtain ⟨b, d⟩ := Prod.mk.inj b
      exact ⟨a, b, d⟩
    rw [if_neg (by decide)] at hcx
    obtain ⟨rfl, rfl⟩ := Prod.mk.inj hcx
    clear he hr hk hl h1 hcx
    go_enter Tryd.func11, Tryd.ntmps11
    go_wp2_with fail
    have s0 := S10.start w
    generalize (w.alloc (.cells #[.int .i64 0, .int .i64 0, .int .i64 0, .int .i64 0, .int .i64 0, .string ⟨#[]⟩] 24)).alloc (.cells #[.int .i64 0, .int .i64 0, .int .i64 0, .int .i64 0, .int .i64 0, .string ⟨#[]⟩] 24) = W0 at *
    refine (H26 _).out.mono ?_
    rintro e w1 ⟨⟨l1, ht1, rfl⟩, b1⟩
    have s1 := s0.call b1
    clear b1 s0 H26 ht1
    obtain ⟨c0, c1, c2, c3, c4, c5⟩ := s1.c.cl
    obtain ⟨n0, n1, n2, n3, n4, n5⟩ := s1.n.cl
    have g0 := s1.c.free 0
    have g1 := s1.c.free 1
    have g2 := s1.c.free 2
    have g3 := s1.c.free 3
    have g4 := s1.c.free 4
    have g5 := s1.c.free 5
    go_wp2
    exact s1.leave rfl rfl
end Go.Proofs.YtpeieagfndggbaaDoor
