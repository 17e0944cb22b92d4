/-
  Two indexes side by side, and what Puts into either do; what is known behind Puts, as lists. Conditions: the table of what kinds need reads as its initialiser lays it; the numbers are ones that an int holds.
-/
import Derived.Test.YtmeklhlojogdnaaDoorAwk
namespace Go.Proofs.YtmeklhlojogdnaaDoor
open Go.RowKit
set_option linter.unusedVariables false

/-- Two indexes, apart; below block D nothing has turned. -/
structure Two (D X Y : Nat) (n : Int) (Lx Ly : List Kn) (Ox Oy : Nat → Prop) (S V : World) : Prop where
  x : Ix V X n Lx Ox
  y : Ix V Y n Ly Oy
  d : ∀ r, Ox r → ¬ Oy r
  lx : ∀ r, Ox r → D ≤ r
  ly : ∀ r, Oy r → D ≤ r
  b : Below D S V
theorem Two.on {D X Y : Nat} {n : Int} {Lx Ly : List Kn} {Ox Oy : Nat → Prop} {S V V' : World} (h : Two D X Y n Lx Ly Ox Oy S V) (hb : Below V.heap.size V V') : Two D X Y n Lx Ly Ox Oy S V' :=
  ⟨h.x.on hb, h.y.on hb, h.d, h.lx, h.ly, h.b.trans (hb.mono (by have := h.lx X h.x.own; have := h.x.lt X h.x.own; omega))⟩
theorem Two.swap {D X Y : Nat} {n : Int} {Lx Ly : List Kn} {Ox Oy : Nat → Prop} {S V : World} (h : Two D X Y n Lx Ly Ox Oy S V) : Two D Y X n Ly Lx Oy Ox S V :=
  ⟨h.y, h.x, fun r h1 h2 => h.d r h2 h1, h.ly, h.lx, h.b⟩
theorem Two.put {D X Y : Nat} {n : Int} {Lx Ly : List Kn} {Ox Oy : Nat → Prop} {S V : World} (h : Two D X Y n Lx Ly Ox Oy S V) (hN : Nd S) (h0 : 1 ≤ D) (k : Kn) (hq : -9223372036854775808 ≤ k.q) :
    Calls Tryd.prog 14 #[.pointer (some ⟨X, 0, none⟩), nv k] V fun e V' => e = .returned (.tuple #[]) ∧ ∃ Ox', Two D X Y n (pt (am n) Lx k) Ly Ox' Oy S V' :=
  (put_any X n Lx Ox k V (hN.below h.b (by omega)) h.x (fun r hr => by have := h.lx r hr; omega) hq).mono fun e V' ⟨he, Ox', hx, ho, hs⟩ => ⟨he, Ox', hx, h.y.off ho (fun r h1 h2 => h.d r h2 h1), fun r h1 h2 => (hs r h1).elim (fun h3 => h.d r h3 h2) (fun h3 => by have := h.y.lt r h2; omega), fun r h1 => (hs r h1).elim (h.lx r) (fun h3 => by have := h.lx X h.x.own; have := h.x.lt X h.x.own; omega), h.ly, h.b.trans (ho.below h.lx (by have := h.lx X h.x.own; have := h.x.lt X h.x.own; omega))⟩
theorem Two.put2 {D X Y : Nat} {n : Int} {Lx Ly : List Kn} {Ox Oy : Nat → Prop} {S V : World} (h : Two D X Y n Lx Ly Ox Oy S V) (hN : Nd S) (h0 : 1 ≤ D) (k : Kn) (hq : -9223372036854775808 ≤ k.q) :
    Calls Tryd.prog 14 #[.pointer (some ⟨Y, 0, none⟩), nv k] V fun e V' => e = .returned (.tuple #[]) ∧ ∃ Oy', Two D X Y n Lx (pt (am n) Ly k) Ox Oy' S V' :=
  (h.swap.put hN h0 k hq).mono fun e V' ⟨he, Oy', h'⟩ => ⟨he, Oy', h'.swap⟩

/-- What is known behind Puts. -/
def lq (N : Int) (L : List Kn) (l : List Kn) : List Kn := l.foldl (fun L k => pt N L k) L
theorem lq_snoc (N : Int) (L l : List Kn) (k : Kn) : lq N L (l ++ [k]) = pt N (lq N L l) k := by simp [lq]
theorem lq_take {N : Int} {L l : List Kn} {p : Nat} (hp : p < l.length) : lq N L (l.take (p + 1)) = pt N (lq N L (l.take p)) l[p] := by rw [List.take_succ_eq_append_getElem hp, lq_snoc]

/-- Without an instance. -/
def fl (i : Int × Int) (L : List Kn) : List Kn := L.filter (fun x => decide (x.i ≠ i))
theorem pt_fl {N : Int} {L : List Kn} {k : Kn} (h : mb k.i N = true) : pt N L k = fl k.i L ++ [k] := pt_yes h
theorem fl_fl (i j : Int × Int) (L : List Kn) : fl i (fl j L) = fl j (fl i L) := by
  unfold fl
  rw [List.filter_filter, List.filter_filter]
  congr 1
  funext x
  rw [Bool.and_comm]
theorem fl_append (i : Int × Int) (L M : List Kn) : fl i (L ++ M) = fl i L ++ fl i M := List.filter_append ..
theorem fl_pt {N : Int} {i : Int × Int} {L M : List Kn} (k : Kn) (h : fl i L = fl i M) : fl i (pt N L k) = fl i (pt N M k) := by
  rcases hb : mb k.i N with _ | _
  · rw [pt_no hb, pt_no hb]; exact h
  · rw [pt_fl hb, pt_fl hb, fl_append, fl_append, fl_fl, h, fl_fl]
theorem fl_lq {N : Int} {i : Int × Int} : ∀ (l : List Kn) {L M : List Kn} (h : fl i L = fl i M), fl i (lq N L l) = fl i (lq N M l)
  | [], L, M, h => h
  | k :: l, L, M, h => fl_lq l (fl_pt k h)
/-- What is put in the place of what was known takes that away. -/
theorem place (N : Int) (a b : Kn) (l : List Kn) (h : b.i = a.i) : pt N (lq N (pt N [] a) l) b = pt N (lq N [] l) b := by
  rcases hb : mb a.i N with _ | _
  · rw [pt_no hb]
  · have hb' : mb b.i N = true := by rw [h]; exact hb
    have h0 : fl b.i (pt N [] a) = fl b.i [] := by rw [h, pt_fl hb]; simp [fl]
    rw [pt_fl hb', pt_fl hb', fl_lq l h0]

/-- Of instances that differ all that may be known are known. -/
theorem mem_lq {N : Int} : ∀ (l : List Kn) (L : List Kn) (hd : l.Pairwise (fun x y => x.i ≠ y.i)) (x : Kn), x ∈ lq N L l ↔ (x ∈ l ∧ mb x.i N = true) ∨ (x ∈ L ∧ ∀ k ∈ l, mb k.i N = true → x.i ≠ k.i)
  | [], L, _, x => by simp [lq]
  | k :: l, L, hd, x => by
    obtain ⟨h1, h2⟩ := List.pairwise_cons.1 hd
    have ih := mem_lq (N := N) l (pt N L k) h2 x
    rw [show lq N L (k :: l) = lq N (pt N L k) l from rfl, ih]
    rcases hb : mb k.i N with _ | _
    · rw [pt_no hb]
      simp only [List.mem_cons]
      constructor
      · rintro (⟨h3, h4⟩ | ⟨h3, h4⟩)
        · exact .inl ⟨.inr h3, h4⟩
        · exact .inr ⟨h3, fun y hy hm => by
            rcases hy with rfl | hy
            · rw [hb] at hm; cases hm
            · exact h4 y hy hm⟩
      · rintro (⟨h3 | h3, h4⟩ | ⟨h3, h4⟩)
        · rw [h3, hb] at h4; cases h4
        · exact .inl ⟨h3, h4⟩
        · exact .inr ⟨h3, fun y hy hm => h4 y (.inr hy) hm⟩
    · rw [pt_yes hb]
      simp only [List.mem_cons, List.mem_append, List.mem_filter, List.not_mem_nil, or_false, decide_eq_true_eq]
      constructor
      · rintro (⟨h3, h4⟩ | ⟨⟨h3, h5⟩ | h3, h4⟩)
        · exact .inl ⟨.inr h3, h4⟩
        · exact .inr ⟨h3, fun y hy hm => by
            rcases hy with rfl | hy
            · exact h5
            · exact h4 y hy hm⟩
        · exact .inl ⟨.inl h3, by rw [h3]; exact hb⟩
      · rintro (⟨h3 | h3, h4⟩ | ⟨h3, h4⟩)
        · exact .inr ⟨.inr h3, fun y hy _ => by rw [h3]; exact h1 y hy⟩
        · exact .inl ⟨h3, h4⟩
        · exact .inr ⟨.inl ⟨h3, h4 k (.inl rfl) hb⟩, fun y hy hm => h4 y (.inr hy) hm⟩

/-- In whatever order others were put, and whatever is known of the own instance. -/
theorem own_order {N : Int} {l : List Kn} {o : Kn} {c : Cd} (hd : l.Pairwise (fun x y => x.i ≠ y.i)) (i : Int × Int) (q : Int) : Pq N (lq N (pt N [] o) l) c o.i i q ↔ Pq N (lq N [] l.reverse) c o.i i q := by
  have hr : l.reverse.Pairwise (fun x y => x.i ≠ y.i) := List.pairwise_reverse.2 (hd.imp (fun h => h.symm))
  constructor
  · rintro ⟨k, hk, h1, h2, h3⟩
    refine ⟨k, (mem_lq l.reverse [] hr k).2 (.inl ?_), h1, h2, h3⟩
    rcases (mem_lq l _ hd k).1 hk with ⟨h4, h5⟩ | ⟨h4, _⟩
    · exact ⟨by simpa using h4, h5⟩
    · exfalso
      unfold pt at h4
      split at h4
      · simp at h4; exact h2 (by rw [h4])
      · simp at h4
  · rintro ⟨k, hk, h1, h2, h3⟩
    refine ⟨k, (mem_lq l _ hd k).2 (.inl ?_), h1, h2, h3⟩
    rcases (mem_lq l.reverse [] hr k).1 hk with ⟨h4, h5⟩ | ⟨h4, _⟩
    · exact ⟨by simpa using h4, h5⟩
    · simp at h4

/-- A box of what is known, to be written to. -/
def Nx (w : World) (B : Nat) (k : Kn) : Prop := w.heap[B]? = some (.cells #[.int .i64 k.i.1, .int .i64 k.i.2, .int .i64 k.c.u, .int .i64 k.c.s, .int .i64 k.c.k, .int .i64 k.c.h, .int .i64 k.c.n, .string k.c.t, .int .i64 k.q] 29 (0, 0))
theorem nx_new (w : World) (k : Kn) : Nx (w.alloc (.cells #[.int .i64 k.i.1, .int .i64 k.i.2, .int .i64 k.c.u, .int .i64 k.c.s, .int .i64 k.c.k, .int .i64 k.c.h, .int .i64 k.c.n, .string k.c.t, .int .i64 k.q] 29)) w.heap.size k := heap_alloc_new w _
theorem Nx.nb {w : World} {B : Nat} {k : Kn} (h : Nx w B k) : Nb w B k := by
  refine ⟨?_, ?_, ?_, ?_, ?_, ?_, ?_, ?_, ?_⟩ <;> (rw [cell_of_row w B _ _ 29 _ h]; rfl)
theorem Nx.free {w : World} {B : Nat} {k : Kn} (h : Nx w B k) (i : Nat) : w.frozen? ⟨B, i, none⟩ = false := Lib.frozen_of_heap h i
theorem Nx.on {w w' : World} {B D : Nat} {k : Kn} (h : Nx w B k) (hb : Below D w w') (hB : B < D) : Nx w' B k := (hb.block B hB).trans h
theorem Nx.lt {w : World} {B : Nat} {k : Kn} (h : Nx w B k) : B < w.heap.size := lt_of_block h
theorem Nx.set {w : World} {B : Nat} {k : Kn} (h : Nx w B k) (i : Int × Int) : Nx ((w.setCell ⟨B, 0, none⟩ (.int .i64 i.1)).setCell ⟨B, 1, none⟩ (.int .i64 i.2)) B ⟨i, k.c, k.q⟩ :=
  heap_setCell_same _ B 1 _ 29 _ (heap_setCell_same w B 0 _ 29 _ h)

/-- Two attributes that are just as great as the same asks are the same. -/
theorem same_yes2 (N : Nat) (h7 : N ≤ 7) (W : World) (g1 g2 : Nat) (s : Int) (ds : List Int) (hl : ds.length = N) (h1 : At.Rx W g1 ds) (h2 : At.Rx W g2 ds)
    (HS : ∀ (a b : Int) (A A' : Option Addr) (c c' : Nat) (xs ys : List Int) (w : World), At.Sl w w.heap.size .i64 A xs → At.Sl w w.heap.size .i64 A' ys → xs.length ≤ 1000 → ys.length ≤ 1000 → Calls Tryd.prog 21 #[.agg #[.int .i64 a, .slice A xs.length c], .agg #[.int .i64 b, .slice A' ys.length c']] w (BoolPost w (At.sa a xs b ys))) :
    Calls Tryd.prog 21 #[.agg #[.int .i64 s, .slice (some ⟨g1, 0, none⟩) N N], .agg #[.int .i64 s, .slice (some ⟨g2, 0, none⟩) N N]] W (BoolPost W true) := by
  subst hl
  have := HS s s (some ⟨g1, 0, none⟩) (some ⟨g2, 0, none⟩) ds.length ds.length ds ds W h1.sl h2.sl (by omega) (by omega)
  rw [At.sa_iff.2 ⟨rfl, fun _ => rfl⟩] at this
  exact this

end Go.Proofs.YtmeklhlojogdnaaDoor
