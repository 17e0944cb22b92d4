/-
  The walks of the document's Same (of two choices) and Fast. Conditions: at most 1000 deps; at most 200 reports.
-/
import Derived.Test.YtgmfjoegfbaebaaRgRb
namespace Go.Proofs.Ytgmfjoegfbaebaa.Rg
open Go.RowKit In
set_option linter.unusedVariables false
attribute [local go_sem ↓ high] Ba.eq23 Ba.guard23 Ba.neq23 Ba.guard23n eqc guardc neqc guardcn

/-- Are the commands of two choices the same? two choices? -/
def ec (x y : Ch) : Bool := (x.u == y.u) && (x.s == y.s) && (x.d == y.d) && (x.h == y.h) && (x.n == y.n) && decide (x.t = y.t)
def cs (x y : Ch) : Bool := At.sa x.q x.xs y.q y.xs && (x.k == y.k) && ec x y
theorem cs_self (x : Ch) : cs x x = true := by simp [cs, ec, sa_self]

set_option maxHeartbeats 1600000 in
theorem csame_any (x y : Ch) (A A' : Option Addr) (c c' : Nat) (w : World) (hs : At.Sl w w.heap.size .i64 A x.xs) (hs' : At.Sl w w.heap.size .i64 A' y.xs) (hl : x.xs.length ≤ 1000) (hl' : y.xs.length ≤ 1000) :
    Calls Try.prog 10 #[chv x A c, chv y A' c'] w (BoolPost w (cs x y)) := by
  have X0 : Cx ((w.alloc (.cells (chc x A c) 32)).alloc (.cells (chc y A' c') 32)) w.heap.size x A c := (cx_new w x A c).old _
  have Y0 : Cx ((w.alloc (.cells (chc x A c) 32)).alloc (.cells (chc y A' c') 32)) (w.heap.size + 1) y A' c' := by
    have h0 := cx_new (w.alloc (.cells (chc x A c) 32)) y A' c'
    rw [show (w.alloc (.cells (chc x A c) 32)).heap.size = w.heap.size + 1 by simp] at h0
    exact h0
  have B0 : Below w.heap.size w ((w.alloc (.cells (chc x A c) 32)).alloc (.cells (chc y A' c') 32)) := ((Below.refl _ _).alloc (Nat.le_refl _) _).alloc (by simp) _
  have HA : Hid (Calls Try.prog 18 #[.agg #[.int .i64 x.q, .slice A x.xs.length c], .agg #[.int .i64 y.q, .slice A' y.xs.length c']] ((w.alloc (.cells (chc x A c) 32)).alloc (.cells (chc y A' c') 32)) (At.BoolPost ((w.alloc (.cells (chc x A c) 32)).alloc (.cells (chc y A' c') 32)) (At.sa x.q x.xs y.q y.xs))) := At.rsame_any x.q y.q A A' c c' x.xs y.xs _ (hs.to B0 B0.size) (hs'.to B0 B0.size) hl hl'
  obtain ⟨p0, p1, p2, p3, p4, p5, p6, p7, p8⟩ := id X0.cc
  obtain ⟨q0, q1, q2, q3, q4, q5, q6, q7, q8⟩ := id Y0.cc
  have l0 := X0.lt
  have l1 := Y0.lt
  unfold cs ec
  generalize At.sa x.q x.xs y.q y.xs = z at *
  go_enter Try.func10, Try.ntmps10
  go_wp2_with fail
  generalize ((w.alloc (.cells (chc x A c) 32)).alloc (.cells (chc y A' c') 32)) = W0 at *
  refine HA.out.mono ?_
  rintro e w1 ⟨rfl, b1⟩
  have X1 := X0.on b1 X0.lt
  have Y1 := Y0.on b1 Y0.lt
  have B1 := B0.trans (b1.mono B0.size)
  clear HA X0 Y0 B0 b1 p0 p1 p2 p3 p4 p5 p6 p7 p8 q0 q1 q2 q3 q4 q5 q6 q7 q8
  obtain ⟨p0, p1, p2, p3, p4, p5, p6, p7, p8⟩ := id X1.cc
  obtain ⟨q0, q1, q2, q3, q4, q5, q6, q7, q8⟩ := id Y1.cc
  cases z
  · go_wp2
    go_ret
    exact ⟨rfl, B1⟩
  · rcases h1 : (x.k == y.k) with _ | _
    · have h1n : ¬ x.k = y.k := by simpa using h1
      have H1 := Lib.hid h1
      go_wp2
      go_ret
      exact ⟨by rw [H1.out]; rfl, B1⟩
    · have h1y : x.k = y.k := by simpa using h1
      have H1 := Lib.hid h1
      go_wp2
      go_ret
      exact ⟨by rw [H1.out]; rfl, B1⟩

theorem fs_eq (o : Int) (n : Nat) (l : List Rp) (hn : 1 ≤ n) : fs o n l = (decide (l.length = n) && fr o l) := by
  unfold fs fr
  by_cases h : l.length = n
  · rcases l with _ | ⟨x, t⟩
    · simp at h; omega
    · simp [h]
  · simp [h]

set_option maxHeartbeats 1600000 in
theorem rFast_any (n o : Int) (A : Option Addr) (c : Nat) (L : List Rp) (hl : Few L) (w : World) (hs : Ls w w.heap.size A L) :
    Calls Try.prog 16 #[.int .i64 n, .int .i64 o, .slice A L.length c] w (BoolPost w (fs o (am n) (ct L (am n)))) := by
  have HC : Hid (Calls Try.prog 25 #[.int .i64 n, .slice A L.length c] w (CtPost w (ct L (am n)))) := rCount_any n A c L hl.1 w hs
  have HN : ∀ V, Hid (Calls Try.prog 29 #[.int .i64 n] V (IntP V (am n))) := fun V => rbound_any n V
  rw [fs_eq o (am n) _ (am_pos n)]
  have hf : Few (ct L (am n)) := ⟨Nat.le_trans (ct_len _ _) (Nat.le_trans (am_le n) (by omega)), fun x hx => hl.2 x (ct_mem hx)⟩
  have HF : ∀ V A' c', Ls V V.heap.size A' (ct L (am n)) → Hid (Calls Try.prog 28 #[.int .i64 o, .slice A' (ct L (am n)).length c'] V (BoolPost V (fr o (ct L (am n))))) := fun V A' c' g => rfirst_any o A' c' _ hf V g
  generalize fr o (ct L (am n)) = z at *
  generalize hm : am n = m at *
  clear hm hf
  generalize ct L m = l at *
  have hd : decide (l.length = m) = ((l.length : Int) == (m : Int)) := by
    rw [Bool.eq_iff_iff]
    simp
    omega
  rw [hd]
  clear hd
  generalize (m : Int) = k at *
  go_enter Try.func16, Try.ntmps16
  go_wp2_with fail
  refine HC.out.mono ?_
  rintro e w1 ⟨A1, c1, rfl, S1, b1⟩
  have HF1 := HF w1 A1 c1 S1
  clear HC HF
  go_wp2_with fail
  refine HF1.out.mono ?_
  rintro e w2 ⟨rfl, b2⟩
  have B2 := b1.trans (b2.mono b1.size)
  clear HF1 b2 b1 S1
  go_wp2_with fail
  refine (HN w2).out.mono ?_
  rintro e w3 ⟨rfl, b3⟩
  have B3 := B2.trans (b3.mono B2.size)
  clear HN b3 B2
  rcases h1 : ((l.length : Int) == k) with _ | _
  · have h1n : ¬ (l.length : Int) = k := by simpa using h1
    have H1 := Lib.hid h1
    go_wp2
    go_ret
    exact ⟨by rw [H1.out]; rfl, B3⟩
  · have H1 := Lib.hid h1
    go_wp2
    go_ret
    exact ⟨by rw [H1.out]; rfl, B3⟩

end Go.Proofs.Ytgmfjoegfbaebaa.Rg
