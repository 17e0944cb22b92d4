/-
  The walks of the program's Same and Waits, and of the document's Waits. Conditions: at most 1000 deps.
-/
import Derived.Test.YtmeklhlojogdnaaDoorAtWi
namespace Go.Proofs.YtmeklhlojogdnaaDoor.At
open Go.RowKit

set_option maxHeartbeats 800000 in
theorem same_any (a b : Int) (A A' : Option Addr) (c c' : Nat) (xs ys : List Int) (w : World) (hx : Sl w w.heap.size .i64 A xs) (hy : Sl w w.heap.size .i64 A' ys) (lx : xs.length ≤ 1000) (ly : ys.length ≤ 1000) :
    Calls Tryd.prog 21 #[.agg #[.int .i64 a, .slice A xs.length c], .agg #[.int .i64 b, .slice A' ys.length c']] w (BoolPost w (sa a xs b ys)) := by
  have H1 : ∀ W, Sl W W.heap.size .i64 A xs → Sl W W.heap.size .i64 A' ys → Hid (Calls Tryd.prog 20 #[.agg #[.int .i64 a, .slice A xs.length c], .agg #[.int .i64 b, .slice A' ys.length c']] W (BoolPost W (wi a xs b ys))) := fun W h1 h2 => within_any a b A A' c c' xs ys W h1 h2 lx ly
  have H2 : ∀ W, Sl W W.heap.size .i64 A xs → Sl W W.heap.size .i64 A' ys → Hid (Calls Tryd.prog 20 #[.agg #[.int .i64 b, .slice A' ys.length c'], .agg #[.int .i64 a, .slice A xs.length c]] W (BoolPost W (wi b ys a xs))) := fun W h1 h2 => within_any b a A' A c' c ys xs W h2 h1 ly lx
  unfold sa
  generalize wi a xs b ys = p at *
  generalize wi b ys a xs = q at *
  have BW : Below w.heap.size w ((w.alloc (.cells #[.int .i64 a, .slice A xs.length c] 32)).alloc (.cells #[.int .i64 b, .slice A' ys.length c'] 32)) := ((Below.refl _ _).alloc (Nat.le_refl _) _).alloc (by simp) _
  have Z0 : ((w.alloc (.cells #[.int .i64 a, .slice A xs.length c] 32)).alloc (.cells #[.int .i64 b, .slice A' ys.length c'] 32)).heap.size = w.heap.size + 1 + 1 := by simp
  have C0 : Rb ((w.alloc (.cells #[.int .i64 a, .slice A xs.length c] 32)).alloc (.cells #[.int .i64 b, .slice A' ys.length c'] 32)) w.heap.size a A xs.length c := (rb_new w a A xs.length c).on ((Below.refl _ _).alloc (Nat.le_refl _) _) (by simp)
  have D0 : Rb ((w.alloc (.cells #[.int .i64 a, .slice A xs.length c] 32)).alloc (.cells #[.int .i64 b, .slice A' ys.length c'] 32)) (w.heap.size + 1) b A' ys.length c' := by
    have := rb_new (w.alloc (.cells #[.int .i64 a, .slice A xs.length c] 32)) b A' ys.length c'
    rw [show (w.alloc (.cells #[.int .i64 a, .slice A xs.length c] 32)).heap.size = w.heap.size + 1 by simp] at this
    exact this
  have X0 := hx.to BW BW.size
  have Y0 := hy.to BW BW.size
  go_enter Tryd.func21, Tryd.ntmps21
  go_wp2_with fail
  generalize ((w.alloc (.cells #[.int .i64 a, .slice A xs.length c] 32)).alloc (.cells #[.int .i64 b, .slice A' ys.length c'] 32)) = W0 at *
  refine (H1 W0 X0 Y0).out.mono ?_
  rintro e w1 ⟨rfl, B1⟩
  have q1 := B1.size
  have HB2 := H2 w1 (X0.up B1) (Y0.up B1)
  obtain ⟨p0, p1⟩ := C0.on B1 (by omega)
  obtain ⟨r0, r1⟩ := D0.on B1 (by omega)
  have BE := BW.trans (B1.mono BW.size)
  clear H1 H2 C0 D0 X0 Y0 hx hy
  cases p
  · go_wp2
    go_ret
    exact ⟨rfl, BE⟩
  · go_wp2_with fail
    refine HB2.out.mono ?_
    rintro e w2 ⟨rfl, B2⟩
    go_wp2
    go_ret
    exact ⟨rfl, BE.trans (B2.mono (by omega))⟩

set_option maxHeartbeats 800000 in
theorem waits_any (a x y : Int) (A : Option Addr) (c : Nat) (xs : List Int) (w : World) (hs : Sl w w.heap.size .i64 A xs) (hx : x ≤ 9223372036854775807) : Calls Tryd.prog 19 #[.agg #[.int .i64 a, .slice A xs.length c], .agg #[.int .i64 x, .int .i64 y]] w (BoolPost w (wt xs x y)) := by
  have BW : Below w.heap.size w ((w.alloc (.cells #[.int .i64 a, .slice A xs.length c] 32)).alloc (.cells #[.int .i64 x, .int .i64 y] 26)) := ((Below.refl _ _).alloc (Nat.le_refl _) _).alloc (by simp) _
  have Z0 : ((w.alloc (.cells #[.int .i64 a, .slice A xs.length c] 32)).alloc (.cells #[.int .i64 x, .int .i64 y] 26)).heap.size = w.heap.size + 1 + 1 := by simp
  have C0 : Rb ((w.alloc (.cells #[.int .i64 a, .slice A xs.length c] 32)).alloc (.cells #[.int .i64 x, .int .i64 y] 26)) w.heap.size a A xs.length c := (rb_new w a A xs.length c).on ((Below.refl _ _).alloc (Nat.le_refl _) _) (by simp)
  have D0 : Ib ((w.alloc (.cells #[.int .i64 a, .slice A xs.length c] 32)).alloc (.cells #[.int .i64 x, .int .i64 y] 26)) (w.heap.size + 1) x y := by
    have := ib_new (w.alloc (.cells #[.int .i64 a, .slice A xs.length c] 32)) x y
    rw [show (w.alloc (.cells #[.int .i64 a, .slice A xs.length c] 32)).heap.size = w.heap.size + 1 by simp] at this
    exact this
  have X0 := hs.to BW BW.size
  by_cases hy : 1 ≤ y
  · rw [wt_hi hy]
    have HO : ∀ n, Hid (Calls Tryd.prog 34 #[.slice A xs.length c, .int .i64 x] (((w.alloc (.cells #[.int .i64 a, .slice A xs.length c] 32)).alloc (.cells #[.int .i64 x, .int .i64 y] 26)).drewN n) fun e w' => e = .returned (.int .i64 (dp xs x)) ∧ w' = ((w.alloc (.cells #[.int .i64 a, .slice A xs.length c] 32)).alloc (.cells #[.int .i64 x, .int .i64 y] 26)).drewN n) := fun n => (of_any A c ((w.alloc (.cells #[.int .i64 a, .slice A xs.length c] 32)).alloc (.cells #[.int .i64 x, .int .i64 y] 26)).heap.size xs x _ (X0.below (below_drewN (Below.refl _ _) n)) hx).mono fun _ _ h => ⟨h.1, h.2.symm⟩
    go_enter Tryd.func19, Tryd.ntmps19
    go_wp2_with fail
    generalize ((w.alloc (.cells #[.int .i64 a, .slice A xs.length c] 32)).alloc (.cells #[.int .i64 x, .int .i64 y] 26)) = W0 at *
    generalize dp xs x = d at *
    obtain ⟨p0, p1⟩ := C0
    obtain ⟨r0, r1⟩ := D0
    have HZ0 := Lib.hid Z0
    clear Z0
    go_quiet ((go_at_call 34; refine Calls.quiet_of_same (HO _).out))
    go_wp2
    go_ret
    exact ⟨rfl, below_drewN BW _⟩
  · rw [wt_lo hy]
    have hd : decide ((1 : Int) ≤ y) = false := decide_eq_false hy
    clear hy
    go_enter Tryd.func19, Tryd.ntmps19
    go_wp2_with fail
    generalize ((w.alloc (.cells #[.int .i64 a, .slice A xs.length c] 32)).alloc (.cells #[.int .i64 x, .int .i64 y] 26)) = W0 at *
    obtain ⟨p0, p1⟩ := C0
    obtain ⟨r0, r1⟩ := D0
    have HZ0 := Lib.hid Z0
    clear Z0
    go_quiet (fail)
    go_wp2
    go_ret
    exact ⟨rfl, below_drewN BW _⟩

end Go.Proofs.YtmeklhlojogdnaaDoor.At
