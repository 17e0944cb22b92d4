/-
  The walks of the writer's methods. Conditions: the writer is a block of its own, behind the library's powers of ten, which read as their initialiser lays them; the texts have at most 10^9 bytes.
-/
import Derived.Test.YtpeieagfndggbaaDoorSw
import Derived.Test.YtpeieagfndggbaaDoorNm
import Derived.Lib.AppendIntMem
namespace Go.Proofs.YtpeieagfndggbaaDoor
open Go.RowKit Tx

theorem add_any (B : Nat) (l : ByteArray) (u s k h n : Int) (t m : ByteArray) (w : World) (hr : Rx 46 w B l u s k h n t) (hl : l.size ≤ 1000000000) (hm : m.size ≤ 1000000000) :
    Calls Tryd.prog 46 #[.pointer (some ⟨B, 0, none⟩), .string m] w fun e w' => e = .returned (.tuple #[]) ∧ ∃ l', nt l' = nt l ++ 32 :: nt m ∧ Rx 46 w' B l' u s k h n t ∧ Below B w w' := by
  obtain ⟨c0, -⟩ := hr.cb
  have g0 := hr.free 0
  have q1 : ¬ 9223372036854775807 < 1 + m.size := by omega
  have q2 : ¬ 9223372036854775807 < l.size + (1 + m.size) := by omega
  go_enter Tryd.func46, Tryd.ntmps46
  go_wp2
  go_end0
  exact ⟨rfl, _, by rw [nt_append, nt_append]; rfl, hr.setl _, below_set B w 0 _⟩
theorem dg_size {n : Int} (h1 : 1 ≤ n) (h2 : n ≤ 1073741824) : (dg n.toNat).length ≤ 10 := dg_len (by omega)
theorem wchan_any (B : Nat) (l : ByteArray) (u s k h n : Int) (t : ByteArray) (w : World) (hr : Rx 46 w B l u s k h n t) (hl : l.size ≤ 1000000000) (hN : Nd w) (h1 : 1 ≤ h) (h2 : h ≤ 1073741824) :
    Calls Tryd.prog 33 #[.pointer (some ⟨B, 0, none⟩)] w fun e w' => e = .returned (.tuple #[]) ∧ ∃ l', nt l' = nt l ++ 32 :: dg h.toNat ∧ Rx 46 w' B l' u s k h n t ∧ Below B w w' := by
  have HI := Lib.hid (strconv_Itoa h (by omega) (by omega) w hN.tb)
  obtain ⟨c0, c1, c2, c3, c4, c5, c6⟩ := hr.cb
  go_enter Tryd.func33, Tryd.ntmps33
  go_wp2_with fail
  refine HI.out.mono ?_
  rintro e w1 ⟨rfl, kk, os, hw1⟩
  have b1' : Below w.heap.size w w1 := by rw [hw1]; exact Lib.below_grow _ _ (Nat.le_refl _) _ _
  have r1 := hr.on b1' hr.lt
  have b1 : Below B w w1 := b1'.mono (Nat.le_of_lt hr.lt)
  clear hw1 b1' c0 c1 c2 c3 c4 c5 c6
  have hm : nt ⟨(Lib.itoa h).toArray⟩ = dg h.toNat := by rw [nt_mk]; exact itoa_dg (by omega)
  have HA := Lib.hid (add_any B l u s k h n t ⟨(Lib.itoa h).toArray⟩ w1 r1 hl (by have := dg_size h1 h2; rw [← nt_len, hm]; omega))
  rw [hm] at HA
  go_wp2_with fail
  refine HA.out.mono ?_
  rintro e w2 ⟨rfl, l2, e2, r2, b2⟩
  go_wp2
  go_end0
  exact ⟨rfl, l2, e2, r2, b1.trans b2⟩
theorem wnumb_any (B : Nat) (l : ByteArray) (u s k h n : Int) (t : ByteArray) (w : World) (hr : Rx 46 w B l u s k h n t) (hl : l.size ≤ 1000000000) (hN : Nd w) (h1 : 1 ≤ n) (h2 : n ≤ 1073741824) :
    Calls Tryd.prog 34 #[.pointer (some ⟨B, 0, none⟩)] w fun e w' => e = .returned (.tuple #[]) ∧ ∃ l', nt l' = nt l ++ 32 :: dg n.toNat ∧ Rx 46 w' B l' u s k h n t ∧ Below B w w' := by
  have HI := Lib.hid (strconv_Itoa n (by omega) (by omega) w hN.tb)
  obtain ⟨c0, c1, c2, c3, c4, c5, c6⟩ := hr.cb
  go_enter Tryd.func34, Tryd.ntmps34
  go_wp2_with fail
  refine HI.out.mono ?_
  rintro e w1 ⟨rfl, kk, os, hw1⟩
  have b1' : Below w.heap.size w w1 := by rw [hw1]; exact Lib.below_grow _ _ (Nat.le_refl _) _ _
  have r1 := hr.on b1' hr.lt
  have b1 : Below B w w1 := b1'.mono (Nat.le_of_lt hr.lt)
  clear hw1 b1' c0 c1 c2 c3 c4 c5 c6
  have hm : nt ⟨(Lib.itoa n).toArray⟩ = dg n.toNat := by rw [nt_mk]; exact itoa_dg (by omega)
  have HA := Lib.hid (add_any B l u s k h n t ⟨(Lib.itoa n).toArray⟩ w1 r1 hl (by have := dg_size h1 h2; rw [← nt_len, hm]; omega))
  rw [hm] at HA
  go_wp2_with fail
  refine HA.out.mono ?_
  rintro e w2 ⟨rfl, l2, e2, r2, b2⟩
  go_wp2
  go_end0
  exact ⟨rfl, l2, e2, r2, b1.trans b2⟩
theorem wtext_any (B : Nat) (l : ByteArray) (u s k h n : Int) (t : ByteArray) (w : World) (hr : Rx 46 w B l u s k h n t) (hl : l.size ≤ 1000000000) (ht : t.size ≤ 1000000000) :
    Calls Tryd.prog 35 #[.pointer (some ⟨B, 0, none⟩)] w fun e w' => e = .returned (.tuple #[]) ∧ ∃ l', nt l' = nt l ++ 32 :: nt t ∧ Rx 46 w' B l' u s k h n t ∧ Below B w w' := by
  obtain ⟨c0, c1, c2, c3, c4, c5, c6⟩ := hr.cb
  have HA := Lib.hid (add_any B l u s k h n t t w hr hl ht)
  go_enter Tryd.func35, Tryd.ntmps35
  go_wp2_with fail
  refine HA.out.mono ?_
  rintro e w2 ⟨rfl, l2, e2, r2, b2⟩
  go_wp2
  go_end0
  exact ⟨rfl, l2, e2, r2, b2⟩

/-- What inTurn does to the writer. -/
theorem turnw_any (w0 : World) (B K : Nat) (hK : K < 8) (l : ByteArray) (u s h n : Int) (t : ByteArray) (w : World) (hr : Rx 46 w B l u s K h n t) (hN : Nd w0) (hb : Below w0.heap.size w0 w) (hB : w0.heap.size ≤ B)
    (hl : l.size ≤ 100000) (ht : t.size ≤ 100000) (h1 : 1 ≤ h ∧ h ≤ 1073741824) (h2 : numbered K = true → 1 ≤ n ∧ n ≤ 1073741824) :
    Calls Tryd.prog 21 #[.int .i64 K, mth 33 ⟨B, 0, none⟩, mth 34 ⟨B, 0, none⟩, mth 35 ⟨B, 0, none⟩] w
      (Out (fun W => ∃ l', nt l' = nt l ++ 32 :: (dg h.toNat ++ (lnum ⟨K, h.toNat, n.toNat, nt t⟩ ++ lend ⟨K, h.toNat, n.toNat, nt t⟩)) ∧ Rx 46 W B l' u s K h n t ∧ Below w0.heap.size w0 W) (fun _ _ => False)) := by
  have hn : ∀ {W}, Below w0.heap.size w0 W → Nd W := fun q => hN.on q
  refine turn_write K hK _ w
    (fun W => ∃ l', nt l' = nt l ++ 32 :: dg h.toNat ∧ Rx 46 W B l' u s K h n t ∧ Below w0.heap.size w0 W)
    (fun W => ∃ l', nt l' = nt l ++ 32 :: (dg h.toNat ++ lnum ⟨K, h.toNat, n.toNat, nt t⟩) ∧ Rx 46 W B l' u s K h n t ∧ Below w0.heap.size w0 W)
    _ _ ?_ ?_ ?_ ?_ ?_ ?_ ?_
  · refine (wchan_any B l u s K h n t w hr (by omega) (hn hb) h1.1 h1.2).mono ?_
    rintro e w1 ⟨rfl, l1, e1, r1, b1⟩
    exact .inl ⟨rfl, l1, e1, r1, hb.trans (b1.mono hB)⟩
  · rintro W ⟨l1, -, -, b⟩; exact hn b
  · rintro W ⟨l1, -, -, b⟩; exact hn b
  · rintro hk W ⟨l1, e1, r1, b1⟩
    have hd := dg_size h1.1 h1.2
    have hl1 : l1.size ≤ 1000000000 := by rw [← nt_len, e1, List.length_append, nt_len, List.length_cons]; omega
    refine (wnumb_any B l1 u s K h n t W r1 hl1 (hn b1) (h2 hk).1 (h2 hk).2).mono ?_
    rintro e w1 ⟨rfl, l2, e2, r2, b2⟩
    refine .inl ⟨rfl, l2, ?_, r2, b1.trans (b2.mono hB)⟩
    have : lnum ⟨K, h.toNat, n.toNat, nt t⟩ = 32 :: dg n.toNat := by unfold lnum; rw [if_pos hk]
    rw [e2, e1, this]
    simp
  · rintro hk W ⟨l1, e1, r1, b1⟩
    have : lnum ⟨K, h.toNat, n.toNat, nt t⟩ = [] := by unfold lnum; rw [if_neg (by rw [hk]; decide)]
    exact ⟨l1, by rw [e1, this, List.append_nil], r1, b1⟩
  · rintro hk W ⟨l1, e1, r1, b1⟩
    have hd := dg_size h1.1 h1.2
    have hn' : (lnum ⟨K, h.toNat, n.toNat, nt t⟩).length ≤ 11 := by
      unfold lnum
      split
      · rename_i hk; have := dg_size (h2 hk).1 (h2 hk).2; show (32 :: dg n.toNat).length ≤ 11; rw [List.length_cons]; omega
      · simp
    have hl1 : l1.size ≤ 1000000000 := by rw [← nt_len, e1, List.length_append, nt_len, List.length_cons, List.length_append]; omega
    refine (wtext_any B l1 u s K h n t W r1 hl1 (by omega)).mono ?_
    rintro e w1 ⟨rfl, l2, e2, r2, b2⟩
    refine .inl ⟨rfl, l2, ?_, r2, b1.trans (b2.mono hB)⟩
    have : lend ⟨K, h.toNat, n.toNat, nt t⟩ = 32 :: nt t := by unfold lend; rw [if_pos hk]
    rw [e2, e1, this]
    simp
  · rintro hk W ⟨l1, e1, r1, b1⟩
    have : lend ⟨K, h.toNat, n.toNat, nt t⟩ = [] := by unfold lend; rw [if_neg (by rw [hk]; decide)]
    exact ⟨l1, by rw [e1, this, List.append_nil], r1, b1⟩
end Go.Proofs.YtpeieagfndggbaaDoor
