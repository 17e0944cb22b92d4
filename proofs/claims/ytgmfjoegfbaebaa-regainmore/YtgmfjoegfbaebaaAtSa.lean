/-
  The walks of the program's Same and Waits, and of the document's Waits. Conditions: at most 1000 deps.
-/
import Derived.Test.YtgmfjoegfbaebaaAtWi
namespace Go.Proofs.Ytgmfjoegfbaebaa.At
open Go.RowKit

set_option maxHeartbeats 800000 in
theorem same_any (a b : Int) (A A' : Option Addr) (c c' : Nat) (xs ys : List Int) (w : World) (hx : Sl w w.heap.size .i64 A xs) (hy : Sl w w.heap.size .i64 A' ys) (lx : xs.length ≤ 1000) (ly : ys.length ≤ 1000) :
    Calls Try.prog 46 #[.agg #[.int .i64 a, .slice A xs.length c], .agg #[.int .i64 b, .slice A' ys.length c']] w (BoolPost w (sa a xs b ys)) := by
  have H1 : ∀ W, Sl W W.heap.size .i64 A xs → Sl W W.heap.size .i64 A' ys → Hid (Calls Try.prog 48 #[.agg #[.int .i64 a, .slice A xs.length c], .agg #[.int .i64 b, .slice A' ys.length c']] W (BoolPost W (wi a xs b ys))) := fun W h1 h2 => within_any a b A A' c c' xs ys W h1 h2 lx ly
  have H2 : ∀ W, Sl W W.heap.size .i64 A xs → Sl W W.heap.size .i64 A' ys → Hid (Calls Try.prog 48 #[.agg #[.int .i64 b, .slice A' ys.length c'], .agg #[.int .i64 a, .slice A xs.length c]] W (BoolPost W (wi b ys a xs))) := fun W h1 h2 => within_any b a A' A c' c ys xs W h2 h1 ly lx
  unfold sa
  generalize wi a xs b ys = p at *
  generalize wi b ys a xs = q at *
  have BW : Below w.heap.size w ((w.alloc (.cells #[.int .i64 a, .slice A xs.length c] 30)).alloc (.cells #[.int .i64 b, .slice A' ys.length c'] 30)) := ((Below.refl _ _).alloc (Nat.le_refl _) _).alloc (by simp) _
  have Z0 : ((w.alloc (.cells #[.int .i64 a, .slice A xs.length c] 30)).alloc (.cells #[.int .i64 b, .slice A' ys.length c'] 30)).heap.size = w.heap.size + 1 + 1 := by simp
  have C0 : Rb ((w.alloc (.cells #[.int .i64 a, .slice A xs.length c] 30)).alloc (.cells #[.int .i64 b, .slice A' ys.length c'] 30)) w.heap.size a A xs.length c := (rb_new w a A xs.length c).on ((Below.refl _ _).alloc (Nat.le_refl _) _) (by simp)
  have D0 : Rb ((w.alloc (.cells #[.int .i64 a, .slice A xs.length c] 30)).alloc (.cells #[.int .i64 b, .slice A' ys.length c'] 30)) (w.heap.size + 1) b A' ys.length c' := by
    have := rb_new (w.alloc (.cells #[.int .i64 a, .slice A xs.length c] 30)) b A' ys.length c'
    rw [show (w.alloc (.cells #[.int .i64 a, .slice A xs.length c] 30)).heap.size = w.heap.size + 1 by simp] at this
    exact this
  have X0 := hx.to BW BW.size
  have Y0 := hy.to BW BW.size
  go_enter Try.func46, Try.ntmps46
  go_wp2_with fail
  generalize ((w.alloc (.cells #[.int .i64 a, .slice A xs.length c] 30)).alloc (.cells #[.int .i64 b, .slice A' ys.length c'] 30)) = W0 at *
  refine (H1 W0 X0 Y0).out.mono ?_
  rintro e w1 ⟨rfl, B1⟩
  have q1 := B1.size
  have HB2 := H2 w1 (X0.up B1) (Y0.up B1)
  obtain ⟨p0, p1⟩ := C0.on B1 (by omega)
  obtain ⟨r0, r1⟩ := D0.on B1 (by omega)
  have BE := BW.trans (B1.mono BW.size)
  clear H1 H2 C0 D0 X0 Y0 hx hy
  cases p
  · go_wp2
    go_ret
    exact ⟨rfl, BE⟩
  · go_wp2_with fail
    refine HB2.out.mono ?_
    rintro e w2 ⟨rfl, B2⟩
    go_wp2
    go_ret
    exact ⟨rfl, BE.trans (B2.mono (by omega))⟩

end Go.Proofs.Ytgmfjoegfbaebaa.At
