/-
  The walk of the program's Parse: what a line asks for, or what is wrong in it, is what the plain theory says. Conditions: the line has at most 10^9 bytes; the table of what kinds need reads as its initialiser lays it.
-/
import Derived.Test.YtpeieagfndggbaaDoorTn
namespace Go.Proofs.YtpeieagfndggbaaDoor
open Go.RowKit Tx

theorem catch_wrong (a b : Addr) (T1 : TypeId) (c : Int) (w : World) (u s k h n : Int) (t : ByteArray) (x : Int) (A B : Nat) (ha : a = ⟨A, 0, none⟩) (hb : b = ⟨B, 0, none⟩) (hA : Cx w A u s k h n t) (hB : w.heap[B]? = some (.cells #[.int .i64 x] 25 (0, 0))) (hne : A ≠ B) :
    CallsD Tryd.prog 19 #[.pointer (some a), .pointer (some b)] (.panicking ({ v := .iface 25 (.int .i64 c), recovered := false } :: [])) w fun e u' w' =>
      e = .returned (.tuple #[]) ∧ u' = .panicking ({ v := .iface 25 (.int .i64 c), recovered := true } :: []) ∧ Cx w' A 0 0 0 0 0 ⟨#[]⟩ ∧ w'.heap[B]? = some (.cells #[.int .i64 c] 25 (0, 0)) ∧ Below (min A B) w w' := by
  subst ha hb
  refine callsD_of_wpS Tryd.func19 rfl fun c₀ cs hu => ?_
  apply wpS_seq
  apply wpS_region
  simp [wpOpsS, go_sem, recoverD, hu, Tryd.ntmps19, Exit.thenS]
  refine wpS_of_wp ?_
  have et : (#[Value.pointer (some { block := A, off := 0 }), Value.pointer (some { block := B, off := 0 })] ++ ((Array.replicate 7 undef).setIfInBounds 1 (Value.iface 25 (Value.int IntKind.i64 c))).setIfInBounds 0 (Value.iface 25 (Value.int IntKind.i64 c))) = #[Value.pointer (some { block := A, off := 0 }), Value.pointer (some { block := B, off := 0 }), Value.iface 25 (Value.int IntKind.i64 c), Value.iface 25 (Value.int IntKind.i64 c), undef, undef, undef, undef, undef] := rfl
  rw [et]
  obtain ⟨a0, a1, a2, a3, a4, a5⟩ := hA.cb
  have b0 : w.cell? ⟨B, 0, none⟩ = some (.int .i64 x) := by rw [cell_of_row w B 0 _ 25 _ hB]; rfl
  have g0 := hA.free 0
  have g1 := hA.free 1
  have g2 := hA.free 2
  have g3 := hA.free 3
  have g4 := hA.free 4
  have g5 := hA.free 5
  have f0 : w.frozen? ⟨B, 0, none⟩ = false := Lib.frozen_of_heap hB 0
  go_wp2
  have as25 : ∀ (v : Value) (w : World), (Instr.typeAssert (.iface 25 v) 20 25 false).run Tryd.prog w = .ok v w := fun v w => by kernel_rfl
  go_region
  have hA' : Cx ((((((w.setCell ⟨A, 0, none⟩ (.int .i64 0)).setCell ⟨A, 1, none⟩ (.int .i64 0)).setCell ⟨A, 2, none⟩ (.int .i64 0)).setCell ⟨A, 3, none⟩ (.int .i64 0)).setCell ⟨A, 4, none⟩ (.int .i64 0)).setCell ⟨A, 5, none⟩ (.string ⟨#[]⟩)) A 0 0 0 0 0 ⟨#[]⟩ :=
    heap_setCell_same _ _ 5 _ 24 _ (heap_setCell_same _ _ 4 _ 24 _ (heap_setCell_same _ _ 3 _ 24 _ (heap_setCell_same _ _ 2 _ 24 _ (heap_setCell_same _ _ 1 _ 24 _ (heap_setCell_same w _ 0 _ 24 _ hA)))))
  have hB' : ((((((w.setCell ⟨A, 0, none⟩ (.int .i64 0)).setCell ⟨A, 1, none⟩ (.int .i64 0)).setCell ⟨A, 2, none⟩ (.int .i64 0)).setCell ⟨A, 3, none⟩ (.int .i64 0)).setCell ⟨A, 4, none⟩ (.int .i64 0)).setCell ⟨A, 5, none⟩ (.string ⟨#[]⟩)).heap[B]? = some (.cells #[.int .i64 x] 25 (0, 0)) := by
    have hs : ∀ (W : World) (i : Nat) (v : Value), (W.setCell ⟨A, i, none⟩ v).heap[B]? = W.heap[B]? := fun W i v => Below.heap_setCell W ⟨A, i, none⟩ v B (Ne.symm hne)
    rw [hs, hs, hs, hs, hs, hs]
    exact hB
  have hW' : Below (min A B) w ((((((w.setCell ⟨A, 0, none⟩ (.int .i64 0)).setCell ⟨A, 1, none⟩ (.int .i64 0)).setCell ⟨A, 2, none⟩ (.int .i64 0)).setCell ⟨A, 3, none⟩ (.int .i64 0)).setCell ⟨A, 4, none⟩ (.int .i64 0)).setCell ⟨A, 5, none⟩ (.string ⟨#[]⟩)) := by
    have hm : min A B ≤ A := Nat.min_le_left ..
    exact ((((((Below.refl _ w).setCell (by exact hm) _).setCell (by exact hm) _).setCell (by exact hm) _).setCell (by exact hm) _).setCell (by exact hm) _).setCell (by exact hm) _
  generalize (((((w.setCell ⟨A, 0, none⟩ (.int .i64 0)).setCell ⟨A, 1, none⟩ (.int .i64 0)).setCell ⟨A, 2, none⟩ (.int .i64 0)).setCell ⟨A, 3, none⟩ (.int .i64 0)).setCell ⟨A, 4, none⟩ (.int .i64 0)).setCell ⟨A, 5, none⟩ (.string ⟨#[]⟩) = w1 at *
  refine ⟨rfl, _, rfl, _, by simp [results, Tryd.results19], rfl, rfl, ?_, ?_, ?_⟩
  · exact (Below.heap_setCell w1 ⟨B, 0, none⟩ (.int .i64 c) A hne).trans hA'
  · exact heap_setCell_same w1 B 0 _ 25 _ hB'
  · exact (hW'.setCell (p := ⟨B, 0, none⟩) (Nat.min_le_right ..) (.int .i64 c)).drew
theorem catch_idle (a b : Addr) (w : World) :
    CallsD Tryd.prog 19 #[.pointer (some a), .pointer (some b)] .returning w fun e u' w' => e = .returned (.tuple #[]) ∧ u' = .returning ∧ w' = w := by
  refine callsD_of_wpS Tryd.func19 rfl fun c₀ cs hu => ?_
  apply wpS_seq
  apply wpS_region
  simp [wpOpsS, go_sem, recoverD, hu, Tryd.ntmps19, Exit.thenS]
  refine wpS_of_wp ?_
  have et : (#[Value.pointer (some a), Value.pointer (some b)] ++ ((Array.replicate 7 undef).setIfInBounds 1 Value.nilIface).setIfInBounds 0 Value.nilIface) = #[Value.pointer (some a), Value.pointer (some b), Value.nilIface, Value.nilIface, undef, undef, undef, undef, undef] := rfl
  rw [et]
  go_wp2
  exact ⟨rfl, .returning, by rw [← hu], _, by simp [results, Tryd.results19], rfl, rfl, rfl⟩

/-- What is left of a list is no longer than it. -/
theorem num_len (most : Nat) (l : List Nat) : (num most l).2.1.length ≤ l.length := by
  rw [num_way]; unfold nway
  repeat' split
  all_goals simp
/-- What Parse leaves: a command without user and number among the user's, and an error. -/
def PaPost (w : World) (c : Co) (x : Nat) (e : Ending) (w' : World) : Prop := (∃ t, nt t = c.t ∧ e = .returned (.tuple #[cv 0 0 c.k c.ch c.n t, .int .i64 x])) ∧ Below w.heap.size w w'
/-- A reader behind the two results of Parse. -/
structure St (w0 : World) (W : World) (l : ByteArray) (k h n : Int) (t : ByteArray) : Prop where
  c : Cx W w0.heap.size 0 0 0 0 0 ⟨#[]⟩
  e : W.heap[w0.heap.size + 1]? = some (.cells #[.int .i64 0] 25 (0, 0))
  r : Rx 37 W (w0.heap.size + 2) l 0 0 k h n t
  b : Below w0.heap.size w0 W
theorem St.on {w0 W W' : World} {l l' : ByteArray} {k h n k' h' n' : Int} {t t' : ByteArray} (s : St w0 W l k h n t) (hb : Below (w0.heap.size + 2) W W') (hr : Rx 37 W' (w0.heap.size + 2) l' 0 0 k' h' n' t') : St w0 W' l' k' h' n' t' :=
  ⟨s.c.on hb (by omega), (hb.block _ (by omega)).trans s.e, hr, s.b.trans (hb.mono (by omega))⟩
/-- The two results of Parse, whatever the reader is. -/
structure S2 (w0 : World) (W : World) : Prop where
  c : Cx W w0.heap.size 0 0 0 0 0 ⟨#[]⟩
  e : W.heap[w0.heap.size + 1]? = some (.cells #[.int .i64 0] 25 (0, 0))
  b : Below w0.heap.size w0 W
theorem St.two {w0 W W' : World} {l : ByteArray} {k h n : Int} {t : ByteArray} (s : St w0 W l k h n t) (hb : Below (w0.heap.size + 2) W W') : S2 w0 W' :=
  ⟨s.c.on hb (by omega), (hb.block _ (by omega)).trans s.e, s.b.trans (hb.mono (by omega))⟩
theorem ends_nil {k ch n : Nat} (hw : worded k = false) : ends k ch n [] = (⟨k, ch, n, []⟩, 0) := by unfold ends; rw [if_neg (by rw [hw]; decide)]; rfl
theorem ends_left {k ch n : Nat} {l : List Nat} (hw : worded k = false) (h : l ≠ []) : ends k ch n l = (Co.none, 2) := by unfold ends; rw [if_neg (by rw [hw]; decide), if_neg h]
theorem ends_text {k ch n : Nat} {l : List Nat} (hw : worded k = true) (h : l.head? = some 32 ∧ may l.tail = true) : ends k ch n l = (⟨k, ch, n, l.tail⟩, 0) := by
  unfold ends; rw [if_pos hw, if_pos h.1, if_neg (by have := (may_iff.1 h.2).2.1; omega), if_pos h.2]
theorem ends_bad {k ch n : Nat} {l : List Nat} (hw : worded k = true) (h : ¬ (l.head? = some 32 ∧ may l.tail = true)) : ends k ch n l = (Co.none, txw l) := by
  unfold ends txw; rw [if_pos hw]
  by_cases h1 : l.head? = some 32
  · rw [if_pos h1, if_pos h1]
    by_cases h2 : 64 < l.tail.length
    · rw [if_pos h2, if_pos h2]
    · rw [if_neg h2, if_neg h2, if_neg (fun q => h ⟨h1, q⟩)]
  · rw [if_neg h1, if_neg h1]

/-- What inTurn does to the reader. -/
def T3 (w0 : World) (K : Nat) (R : List Nat) (W : World) : Prop := ∃ (l t : ByteArray) (h n : Nat), St w0 W l K h n t ∧ (nt l = [] → rest K R = (⟨K, h, n, nt t⟩, 0)) ∧ (nt l ≠ [] → rest K R = (Co.none, 2))
def TR (w0 : World) (K : Nat) (R : List Nat) (c : Int) (W : World) : Prop := (∃ x : Nat, c = x ∧ rest K R = (Co.none, x)) ∧ S2 w0 W
theorem turn_any (w0 : World) (K : Nat) (hK : K < 8) (l : ByteArray) (w : World) (hs : l.size ≤ 1000000000) (s : St w0 w l K 0 0 ⟨#[]⟩) (hN : Nd w0) :
    Calls Tryd.prog 21 #[.int .i64 K, mth 22 ⟨w0.heap.size + 2, 0, none⟩, mth 23 ⟨w0.heap.size + 2, 0, none⟩, mth 24 ⟨w0.heap.size + 2, 0, none⟩] w (Out (T3 w0 K (nt l)) (TR w0 K (nt l))) := by
  have hn : ∀ {W l k h n t}, St w0 W l k h n t → Nd W := fun s => hN.on s.b
  refine turn_read K hK _ w
    (fun W => ∃ l1 : ByteArray, l1.size ≤ 1000000000 ∧ (num 1048576 (nt l)).2.2 = 0 ∧ nt l1 = (num 1048576 (nt l)).2.1 ∧ St w0 W l1 K (num 1048576 (nt l)).1 0 ⟨#[]⟩)
    (fun W => ∃ (l2 : ByteArray) (n : Nat), l2.size ≤ 1000000000 ∧ St w0 W l2 K (num 1048576 (nt l)).1 n ⟨#[]⟩ ∧ rest K (nt l) = ends K (num 1048576 (nt l)).1 n (nt l2))
    (T3 w0 K (nt l)) (TR w0 K (nt l)) ?_ ?_ ?_ ?_ ?_ ?_ ?_
  · by_cases he : (num 1048576 (nt l)).2.2 = 0
    · refine (chan_yes _ l 0 0 K 0 0 ⟨#[]⟩ w s.r hs he).mono ?_
      rintro e w1 ⟨rfl, l1, e1, r1, b1⟩
      refine .inl ⟨rfl, l1, ?_, he, e1, s.on b1 r1⟩
      have := num_len 1048576 (nt l)
      rw [← nt_len, e1]
      rw [nt_len] at this
      omega
    · refine (chan_no _ l 0 0 K 0 0 ⟨#[]⟩ w s.r hs he).mono ?_
      rintro e w1 ⟨rfl, b1⟩
      refine .inr ⟨_, rfl, ⟨_, rfl, ?_⟩, ?_⟩
      · unfold rest; rw [if_pos he]
      · exact s.two b1
  · rintro W ⟨l1, -, -, -, s1⟩; exact hn s1
  · rintro W ⟨l1, n, -, s1, -⟩; exact hn s1
  · rintro hk W ⟨l1, h1, he, e1, s1⟩
    by_cases hf : (num 1073741824 (nt l1)).2.2 = 0
    · refine (numb_yes _ l1 0 0 K _ 0 ⟨#[]⟩ W s1.r h1 hf).mono ?_
      rintro e w1 ⟨rfl, l2, e2, r2, b2⟩
      refine .inl ⟨rfl, l2, _, ?_, s1.on b2 r2, ?_⟩
      · have := num_len 1073741824 (nt l1)
        rw [← nt_len, e2]
        rw [nt_len] at this
        omega
      · unfold rest
        rw [e1] at hf
        rw [if_neg (by rw [he]; decide), if_pos hk, if_neg (by rw [hf]; decide), e2, e1]
    · refine (numb_no _ l1 0 0 K _ 0 ⟨#[]⟩ W s1.r h1 hf).mono ?_
      rintro e w1 ⟨rfl, b1⟩
      refine .inr ⟨_, rfl, ⟨_, rfl, ?_⟩, ?_⟩
      · unfold rest
        rw [e1] at hf ⊢
        rw [if_neg (by rw [he]; decide), if_pos hk, if_pos hf]
      · exact s1.two b1
  · rintro hk W ⟨l1, h1, he, e1, s1⟩
    refine ⟨l1, 0, h1, s1, ?_⟩
    unfold rest
    rw [if_neg (by rw [he]; decide), if_neg (by rw [hk]; decide), e1]
  · rintro hw W ⟨l2, n, h2, s2, e2⟩
    by_cases hm : (nt l2).head? = some 32 ∧ may (nt l2).tail = true
    · refine (text_yes _ l2 0 0 K _ n ⟨#[]⟩ W s2.r hm.1 hm.2).mono ?_
      rintro e w1 ⟨rfl, l3, t3, e3, e4, r3, b3⟩
      refine .inl ⟨rfl, l3, t3, _, n, s2.on b3 r3, fun _ => ?_, fun q => absurd e3 q⟩
      rw [e2, ends_text hw hm, e4]
    · refine (text_no _ l2 0 0 K _ n ⟨#[]⟩ W s2.r hm).mono ?_
      rintro e w1 ⟨rfl, b1⟩
      refine .inr ⟨_, rfl, ⟨_, rfl, ?_⟩, ?_⟩
      · rw [e2, ends_bad hw hm]
      · exact s2.two b1
  · rintro hw W ⟨l2, n, h2, s2, e2⟩
    refine ⟨l2, ⟨#[]⟩, _, n, s2, fun q => ?_, fun q => ?_⟩
    · rw [e2, q, ends_nil hw]; rfl
    · rw [e2, ends_left hw q]

theorem run_res10 {V : World} {tm : Array Value} {A B : Nat} {u s k h n x : Int} {t : ByteArray} (h2 : tm[2]?.getD undef = .pointer (some ⟨A, 0, none⟩)) (h3 : tm[3]?.getD undef = .pointer (some ⟨B, 0, none⟩)) (hb : Cx V A u s k h n t) (he : V.heap[B]? = some (.cells #[.int .i64 x] 25 (0, 0))) :
    (results Tryd.f10 tm).run Tryd.prog V = .ok (.tuple #[cv u s k h n t, .int .i64 x]) V := by
  obtain ⟨c0, c1, c2, c3, c4, c5⟩ := hb.cb
  have d0 : V.cell? ⟨B, 0, none⟩ = some (.int .i64 x) := by rw [cell_of_row V B 0 _ 25 _ he]; rfl
  simp [results, Tryd.results10, h2, h3, go_sem, c0, c1, c2, c3, c4, c5, d0]
theorem door_bad {w w1 : World} (x : Nat) (tm : Array Value) (h2 : tm[2]?.getD undef = .pointer (some ⟨w.heap.size, 0, none⟩)) (h3 : tm[3]?.getD undef = .pointer (some ⟨w.heap.size + 1, 0, none⟩)) (s1 : S2 w w1) :
    bodyPostD Tryd.prog Tryd.f10 (PaPost w Co.none x) (Exit.panic [{ v := .iface 25 (.int .i64 x), recovered := false }])
      { tmps := tm, defers := [{ target := Target.fn (Fn.func 19) #[.pointer (some ⟨w.heap.size, 0, none⟩), .pointer (some ⟨w.heap.size + 1, 0, none⟩)], args := #[] }] } w1 := by
  refine leaves_cons (f := 19) (args := #[.pointer (some ⟨w.heap.size, 0, none⟩), .pointer (some ⟨w.heap.size + 1, 0, none⟩)]) (by simp) (by simp [go_sem]) ?_
  refine (catch_wrong _ _ 0 x w1 _ _ _ _ _ _ _ _ _ rfl rfl s1.c s1.e (by omega)).mono ?_
  rintro e u' w2 ⟨rfl, rfl, hA, hB, hb⟩
  exact ⟨_, run_res10 h2 h3 hA hB, ⟨⟨#[]⟩, rfl, rfl⟩, s1.b.trans (hb.mono (Nat.le_min.2 ⟨Nat.le_refl _, by omega⟩))⟩
theorem door_good {w w1 : World} (k h n : Int) (t : ByteArray) (tm : Array Value) (h2 : tm[2]?.getD undef = .pointer (some ⟨w.heap.size, 0, none⟩)) (h3 : tm[3]?.getD undef = .pointer (some ⟨w.heap.size + 1, 0, none⟩)) (hA : Cx w1 w.heap.size 0 0 k h n t) (hB : w1.heap[w.heap.size + 1]? = some (.cells #[.int .i64 0] 25 (0, 0))) (Q : Ending → World → Prop) (hQ : Q (.returned (.tuple #[cv 0 0 k h n t, .int .i64 0])) w1) :
    bodyPostD Tryd.prog Tryd.f10 Q Exit.ret
      { tmps := tm, defers := [{ target := Target.fn (Fn.func 19) #[.pointer (some ⟨w.heap.size, 0, none⟩), .pointer (some ⟨w.heap.size + 1, 0, none⟩)], args := #[] }] } w1 := by
  refine leaves_cons (f := 19) (args := #[.pointer (some ⟨w.heap.size, 0, none⟩), .pointer (some ⟨w.heap.size + 1, 0, none⟩)]) (by simp) (by simp [go_sem]) ?_
  refine (catch_idle _ _ w1).mono ?_
  rintro e u' w2 ⟨rfl, rfl, rfl⟩
  exact ⟨_, run_res10 h2 h3 hA hB, hQ⟩
theorem st_start (w : World) (s : ByteArray) : St w (((w.alloc (.cells #[.int .i64 0, .int .i64 0, .int .i64 0, .int .i64 0, .int .i64 0, .string ⟨#[]⟩] 24)).alloc (.cells #[.int .i64 0] 25)).alloc (.cells #[.string s, .int .i64 0, .int .i64 0, .int .i64 0, .int .i64 0, .int .i64 0, .string ⟨#[]⟩] 37)) s 0 0 0 ⟨#[]⟩ := by
  have z1 : (w.alloc (.cells #[.int .i64 0, .int .i64 0, .int .i64 0, .int .i64 0, .int .i64 0, .string ⟨#[]⟩] 24)).heap.size = w.heap.size + 1 := by simp
  have n1 := nalloc_new w (.cells #[.int .i64 0, .int .i64 0, .int .i64 0, .int .i64 0, .int .i64 0, .string ⟨#[]⟩] 24)
  have b1 : Below w.heap.size w (w.alloc (.cells #[.int .i64 0, .int .i64 0, .int .i64 0, .int .i64 0, .int .i64 0, .string ⟨#[]⟩] 24)) := (Below.refl _ _).alloc (Nat.le_refl _) _
  generalize w.alloc (.cells #[.int .i64 0, .int .i64 0, .int .i64 0, .int .i64 0, .int .i64 0, .string ⟨#[]⟩] 24) = w1 at *
  have z2 : (w1.alloc (.cells #[.int .i64 0] 25)).heap.size = w.heap.size + 2 := by simp [z1]
  have n2 := nalloc_new w1 (.cells #[.int .i64 0] 25)
  rw [z1] at n2
  have n1' := (nalloc_old w1 (.cells #[.int .i64 0] 25) (b := w.heap.size) (by omega)).trans n1
  have b2 := b1.alloc (by omega) (.cells #[.int .i64 0] 25)
  generalize w1.alloc (.cells #[.int .i64 0] 25) = w2 at *
  have n3 := nalloc_new w2 (.cells #[.string s, .int .i64 0, .int .i64 0, .int .i64 0, .int .i64 0, .int .i64 0, .string ⟨#[]⟩] 37)
  rw [z2] at n3
  exact ⟨(nalloc_old w2 _ (by omega)).trans n1', (nalloc_old w2 _ (by omega)).trans n2, n3, b2.alloc (by omega) _⟩
set_option maxRecDepth 100000 in
theorem parse_any (s : ByteArray) (w : World) (hs : s.size ≤ 1000000000) (hN : Nd w) : Calls Tryd.prog 10 #[.string s] w (PaPost w (parse (nt s)).1 (parse (nt s)).2) := by
  have hmf : ∀ (fn : Fn) (first cap : Array Value) (w : World), (Instr.makeFunc fn first cap).run Tryd.prog w = .ok (.func fn first cap) w := fun _ _ _ _ => rfl
  by_cases hk : (nt s).head? = some 47 ∧ kindOf ((nt s).tail.takeWhile nots) ≠ 0
  · have hp : parse (nt s) = rest (kindOf ((nt s).tail.takeWhile nots)) ((nt s).tail.dropWhile nots) := by
      unfold parse; rw [if_pos hk.1, if_neg hk.2]
    have hlt := kindOf_lt ((nt s).tail.takeWhile nots)
    have hdl : ((nt s).tail.dropWhile nots).length ≤ s.size := Nat.le_trans (List.dropWhile_sublist _).length_le (tail_len s)
    rw [hp]
    have HK := fun W u s' k h n t hr => Lib.hid (kind_yes (w.heap.size + 1 + 1) s u s' k h n t W hr hs hk.1 hk.2)
    generalize kindOf ((nt s).tail.takeWhile nots) = K at *
    generalize (nt s).tail.dropWhile nots = R at *
    clear hp hk
    obtain ⟨C, X, hCX⟩ : ∃ C X, rest K R = (C, X) := ⟨_, _, rfl⟩
    rw [hCX]
    show Calls Tryd.prog 10 #[.string s] w (PaPost w C X)
    go_enter_defers Tryd.func10, Tryd.ntmps10
    go_wp2_with fail
    have s0 : St w (((w.alloc (.cells #[.int .i64 0, .int .i64 0, .int .i64 0, .int .i64 0, .int .i64 0, .string ⟨#[]⟩] 24)).alloc (.cells #[.int .i64 0] 25)).alloc (.cells #[.string s, .int .i64 0, .int .i64 0, .int .i64 0, .int .i64 0, .int .i64 0, .string ⟨#[]⟩] 37)) s 0 0 0 ⟨#[]⟩ := st_start w s
    generalize (((w.alloc (.cells #[.int .i64 0, .int .i64 0, .int .i64 0, .int .i64 0, .int .i64 0, .string ⟨#[]⟩] 24)).alloc (.cells #[.int .i64 0] 25)).alloc (.cells #[.string s, .int .i64 0, .int .i64 0, .int .i64 0, .int .i64 0, .int .i64 0, .string ⟨#[]⟩] 37)) = W at *
    refine (HK W _ _ _ _ _ _ s0.r).out.mono ?_
    rintro e w1 ⟨rfl, l1, e1, r1, b1⟩
    have s1 := s0.on b1 r1
    have hl1 : l1.size ≤ 1000000000 := by rw [← nt_len, e1]; omega
    have HT := Lib.hid (turn_any w K hlt l1 w1 hl1 s1 hN)
    rw [e1] at HT
    clear s0 r1 b1 HK
    have r1 := s1.r
    obtain ⟨d0, d1, d2, d3, d4, d5, d6⟩ := r1.cb
    go_wp2_with fail
    refine HT.out.mono ?_
    rintro e w2 (⟨rfl, l2, t2, h, n, s2, k1, k2⟩ | ⟨c, rfl, ⟨x, rfl, ex⟩, s2⟩)
    · clear s1 r1 d0 d1 d2 d3 d4 d5 d6 HT
      by_cases hl : nt l2 = []
      · obtain ⟨rfl, rfl⟩ := Prod.mk.inj (hCX.symm.trans (k1 hl))
        have HE := Lib.hid (end_yes _ l2 _ _ _ _ _ _ w2 s2.r hl)
        clear k1 k2
        go_wp2_with fail
        refine HE.out.mono ?_
        rintro e w3 ⟨rfl, rfl⟩
        obtain ⟨d0, d1, d2, d3, d4, d5, d6⟩ := s2.r.cb
        obtain ⟨a0, a1, a2, a3, a4, a5⟩ := s2.c.cb
        have b0 : w3.cell? ⟨w.heap.size + 1, 0, none⟩ = some (.int .i64 0) := by rw [cell_of_row w3 _ 0 _ 25 _ s2.e]; rfl
        have g0 := s2.c.free 0
        have g1 := s2.c.free 1
        have g2 := s2.c.free 2
        have g3 := s2.c.free 3
        have g4 := s2.c.free 4
        have g5 := s2.c.free 5
        have f0 : w3.frozen? ⟨w.heap.size + 1, 0, none⟩ = false := Lib.frozen_of_heap s2.e 0
        go_wp2
        have hA' : Cx ((((((w3.setCell ⟨w.heap.size, 0, none⟩ (.int .i64 0)).setCell ⟨w.heap.size, 1, none⟩ (.int .i64 0)).setCell ⟨w.heap.size, 2, none⟩ (.int .i64 K)).setCell ⟨w.heap.size, 3, none⟩ (.int .i64 h)).setCell ⟨w.heap.size, 4, none⟩ (.int .i64 n)).setCell ⟨w.heap.size, 5, none⟩ (.string t2)) w.heap.size 0 0 K h n t2 :=
          heap_setCell_same _ _ 5 _ 24 _ (heap_setCell_same _ _ 4 _ 24 _ (heap_setCell_same _ _ 3 _ 24 _ (heap_setCell_same _ _ 2 _ 24 _ (heap_setCell_same _ _ 1 _ 24 _ (heap_setCell_same w3 _ 0 _ 24 _ s2.c)))))
        have hB' : ((((((w3.setCell ⟨w.heap.size, 0, none⟩ (.int .i64 0)).setCell ⟨w.heap.size, 1, none⟩ (.int .i64 0)).setCell ⟨w.heap.size, 2, none⟩ (.int .i64 K)).setCell ⟨w.heap.size, 3, none⟩ (.int .i64 h)).setCell ⟨w.heap.size, 4, none⟩ (.int .i64 n)).setCell ⟨w.heap.size, 5, none⟩ (.string t2)).heap[w.heap.size + 1]? = some (.cells #[.int .i64 0] 25 (0, 0)) := by
          have hs : ∀ (W : World) (i : Nat) (v : Value), (W.setCell ⟨w.heap.size, i, none⟩ v).heap[w.heap.size + 1]? = W.heap[w.heap.size + 1]? := fun W i v => Below.heap_setCell W ⟨w.heap.size, i, none⟩ v _ (by show w.heap.size + 1 ≠ w.heap.size; omega)
          rw [hs, hs, hs, hs, hs, hs]
          exact s2.e
        have hW' : Below w.heap.size w ((((((w3.setCell ⟨w.heap.size, 0, none⟩ (.int .i64 0)).setCell ⟨w.heap.size, 1, none⟩ (.int .i64 0)).setCell ⟨w.heap.size, 2, none⟩ (.int .i64 K)).setCell ⟨w.heap.size, 3, none⟩ (.int .i64 h)).setCell ⟨w.heap.size, 4, none⟩ (.int .i64 n)).setCell ⟨w.heap.size, 5, none⟩ (.string t2)) := by
          have hb : ∀ (W : World) (i : Nat) (v : Value), Below w.heap.size w W → Below w.heap.size w (W.setCell ⟨w.heap.size, i, none⟩ v) := fun W i v q => q.trans (below_set _ W i v)
          exact hb _ _ _ (hb _ _ _ (hb _ _ _ (hb _ _ _ (hb _ _ _ (hb _ _ _ s2.b)))))
        generalize (((((w3.setCell ⟨w.heap.size, 0, none⟩ (.int .i64 0)).setCell ⟨w.heap.size, 1, none⟩ (.int .i64 0)).setCell ⟨w.heap.size, 2, none⟩ (.int .i64 K)).setCell ⟨w.heap.size, 3, none⟩ (.int .i64 h)).setCell ⟨w.heap.size, 4, none⟩ (.int .i64 n)).setCell ⟨w.heap.size, 5, none⟩ (.string t2) = w4 at *
        have hA2 : Cx (w4.setCell ⟨w.heap.size + 1, 0, none⟩ (.int .i64 0)) w.heap.size 0 0 K h n t2 := (Below.heap_setCell w4 ⟨w.heap.size + 1, 0, none⟩ _ _ (by show w.heap.size ≠ w.heap.size + 1; omega)).trans hA'
        have hB2 : (w4.setCell ⟨w.heap.size + 1, 0, none⟩ (.int .i64 0)).heap[w.heap.size + 1]? = some (.cells #[.int .i64 0] 25 (0, 0)) := heap_setCell_same w4 _ 0 _ 25 _ hB'
        have hW2 : Below w.heap.size w (w4.setCell ⟨w.heap.size + 1, 0, none⟩ (.int .i64 0)) := hW'.setCell (by show w.heap.size ≤ w.heap.size + 1; omega) _
        refine door_good _ _ _ _ _ ?_ ?_ hA2 hB2 _ ⟨⟨t2, rfl, rfl⟩, hW2⟩ <;> rfl
      · obtain ⟨rfl, rfl⟩ := Prod.mk.inj (hCX.symm.trans (k2 hl))
        have HE := Lib.hid (end_no _ l2 _ _ _ _ _ _ w2 s2.r hl)
        clear k1 k2
        go_wp2_with fail
        refine HE.out.mono ?_
        rintro e w3 ⟨rfl, rfl⟩
        refine door_bad 2 _ ?_ ?_ (s2.two (Below.refl _ _)) <;> rfl
    · obtain ⟨rfl, rfl⟩ := Prod.mk.inj (hCX.symm.trans ex)
      refine door_bad _ _ ?_ ?_ s2 <;> rfl
  · have hp : parse (nt s) = (Co.none, 2) := by
      unfold parse
      by_cases h1 : (nt s).head? = some 47
      · rw [if_pos h1, if_pos]
        rcases Nat.eq_zero_or_pos (kindOf ((nt s).tail.takeWhile nots)) with h | h
        · exact h
        · exact absurd ⟨h1, by omega⟩ hk
      · rw [if_neg h1]
    rw [hp]
    have HK := fun W u s' k h n t hr => Lib.hid (kind_no (w.heap.size + 1 + 1) s u s' k h n t W hr hs hk)
    go_enter_defers Tryd.func10, Tryd.ntmps10
    go_wp2_with fail
    have s0 : St w (((w.alloc (.cells #[.int .i64 0, .int .i64 0, .int .i64 0, .int .i64 0, .int .i64 0, .string ⟨#[]⟩] 24)).alloc (.cells #[.int .i64 0] 25)).alloc (.cells #[.string s, .int .i64 0, .int .i64 0, .int .i64 0, .int .i64 0, .int .i64 0, .string ⟨#[]⟩] 37)) s 0 0 0 ⟨#[]⟩ := st_start w s
    generalize (((w.alloc (.cells #[.int .i64 0, .int .i64 0, .int .i64 0, .int .i64 0, .int .i64 0, .string ⟨#[]⟩] 24)).alloc (.cells #[.int .i64 0] 25)).alloc (.cells #[.string s, .int .i64 0, .int .i64 0, .int .i64 0, .int .i64 0, .int .i64 0, .string ⟨#[]⟩] 37)) = W at *
    refine (HK W _ _ _ _ _ _ s0.r).out.mono ?_
    rintro e w1 ⟨rfl, b1⟩
    refine door_bad 2 _ ?_ ?_ (s0.two b1) <;> rfl
end Go.Proofs.YtpeieagfndggbaaDoor
