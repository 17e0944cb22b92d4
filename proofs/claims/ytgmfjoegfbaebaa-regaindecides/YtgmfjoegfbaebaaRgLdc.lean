/-
  The walk of the law RegainDecides: what is to be done is what the document says. No conditions.
-/
import Derived.Test.YtgmfjoegfbaebaaRgAw
import Derived.Deep.RegionHeld3
import Derived.Deep.QuietTactic
namespace Go.Proofs.Ytgmfjoegfbaebaa.Rg
open Go.RowKit In
set_option linter.unusedVariables false
attribute [local go_sem ↓ high] Ba.eq23 Ba.guard23 Ba.neq23 Ba.guard23n eqc guardc neqc guardcn

set_option maxHeartbeats 1600000 in
theorem decides_any (n o : Int) (A : Option Addr) (c : Nat) (L : List Rp) (w : World) (hs : Ls w w.heap.size A L) : Calls Try.prog 3 #[.int .i64 n, .int .i64 o, .slice A L.length c] w (UpPost w) := by
  have HA : Hid (Calls Try.prog 8 #[] w (UpPost w)) := awake_any w
  have HF : ∀ V, Ls V V.heap.size A L → Hid (Calls Try.prog 9 #[.slice A L.length c] V (BoolPost V (fw L))) := fun V g => few_any A c L V g
  rcases hf : fw L with _ | _
  · rw [hf] at HF
    go_enter Try.func3, Try.ntmps3
    go_wp2_with fail
    refine HA.out.mono ?_
    rintro e w1 ⟨rfl, b1⟩
    have S1 := hs.to b1 b1.size
    clear HA
    go_wp2_with fail
    refine (HF w1 S1).out.mono ?_
    rintro e w2 ⟨rfl, b2⟩
    have B2 := b1.trans (b2.mono b1.size)
    clear HF S1 b1 b2
    go_wp2
    go_ret
    exact ⟨rfl, B2⟩
  · rw [hf] at HF
    have hk := fw_few hf
    have hfw := Few.le hk.1 hk.2
    have h1 : ∀ V, Ls V V.heap.size A L → Hid (Calls Try.prog 11 #[.int .i64 n, .int .i64 o, .slice A L.length c] V (ChP V (dc o (am n) (ct L (am n))))) := fun V g => Decide_any n o A c L hfw V g
    have h2 : ∀ V, Ls V V.heap.size A L → Hid (Calls Try.prog 12 #[.int .i64 n, .int .i64 o, .slice A L.length c] V (DcP V (dc o (am n) (ct L (am n))))) := fun V g => rDecide_any n o A c L hfw V g
    have h3 : ∀ V A1 A2 c1 c2, At.Sl V V.heap.size .i64 A1 (dc o (am n) (ct L (am n))).xs → At.Sl V V.heap.size .i64 A2 (dc o (am n) (ct L (am n))).xs → Hid (Calls Try.prog 10 #[chv (dc o (am n) (ct L (am n))) A1 c1, chv (dc o (am n) (ct L (am n))) A2 c2] V (BoolPost V true)) := fun V A1 A2 c1 c2 g g' => by
      have hl := dc_len (o := o) (n := am n) hfw.2
      have := csame_any _ _ A1 A2 c1 c2 V g g' hl hl
      rw [cs_self] at this
      exact this
    have h4 : ∀ V, Hid (Calls Try.prog 13 #[.int .i64 n] V (IntP V (qu (am n)))) := fun V => Quorum_any n V
    have h5 : ∀ V, Hid (Calls Try.prog 14 #[.int .i64 n] V (IntP V (qu (am n)))) := fun V => rQuorum_any n V
    have h6 : ∀ V, Ls V V.heap.size A L → Hid (Calls Try.prog 15 #[.int .i64 n, .int .i64 o, .slice A L.length c] V (BoolPost V (fs o (am n) (ct L (am n))))) := fun V g => Fast_any n o A c L hfw V g
    have h7 : ∀ V, Ls V V.heap.size A L → Hid (Calls Try.prog 16 #[.int .i64 n, .int .i64 o, .slice A L.length c] V (BoolPost V (fs o (am n) (ct L (am n))))) := fun V g => rFast_any n o A c L hfw V g
    generalize dc o (am n) (ct L (am n)) = d at *
    generalize fs o (am n) (ct L (am n)) = f at *
    generalize ((qu (am n) : Nat) : Int) = q at *
    clear hf hk hfw
    go_enter Try.func3, Try.ntmps3
    go_wp2_with fail
    refine HA.out.mono ?_
    rintro e w1 ⟨rfl, b1⟩
    have S1 := hs.to b1 b1.size
    clear HA
    go_wp2_with fail
    refine (HF w1 S1).out.mono ?_
    rintro e w2 ⟨rfl, b2⟩
    have B2 := b1.trans (b2.mono b1.size)
    have S2 := S1.to b2 b2.size
    clear HF S1 b1 b2
    go_wp2_with fail
    refine (h1 w2 S2).out.mono ?_
    rintro e w3 ⟨A3, c3, rfl, f3, b3⟩
    have B3 := B2.trans (b3.mono B2.size)
    have S3 := S2.to b3 b3.size
    clear h1 S2 B2 b3
    go_wp2_with fail
    refine (h2 w3 S3).out.mono ?_
    rintro e w4 ⟨A4, c4, rfl, s4, b4⟩
    have B4 := B3.trans (b4.mono B3.size)
    have S4 := S3.to b4 b4.size
    have T4 := f3.sl.to b4 b4.size
    clear h2 S3 B3 b4 f3
    go_wp2_with fail
    refine (h3 w4 A3 A4 c3 c4 T4 s4).out.mono ?_
    rintro e w5 ⟨rfl, b5⟩
    have B5 := B4.trans (b5.mono B4.size)
    have S5 := S4.to b5 b5.size
    clear h3 S4 B4 b5 T4 s4
    go_wp2_with fail
    refine (h4 w5).out.mono ?_
    rintro e w6 ⟨rfl, b6⟩
    have B6 := B5.trans (b6.mono B5.size)
    have S6 := S5.to b6 b6.size
    clear h4 S5 B5 b6
    go_wp2_with fail
    refine (h5 w6).out.mono ?_
    rintro e w7 ⟨rfl, b7⟩
    have B7 := B6.trans (b7.mono B6.size)
    have S7 := S6.to b7 b7.size
    clear h5 S6 B6 b7
    go_wp2_with fail
    refine (h6 w7 S7).out.mono ?_
    rintro e w8 ⟨rfl, b8⟩
    have B8 := B7.trans (b8.mono B7.size)
    have S8 := S7.to b8 b8.size
    clear h6 S7 B7 b8
    go_wp2_with fail
    refine (h7 w8 S8).out.mono ?_
    rintro e w9 ⟨rfl, b9⟩
    have B9 := B8.trans (b9.mono B8.size)
    clear h7 S8 B8 b9
    go_wp2
    go_ret
    exact ⟨by simp, B9⟩

end Go.Proofs.Ytgmfjoegfbaebaa.Rg
