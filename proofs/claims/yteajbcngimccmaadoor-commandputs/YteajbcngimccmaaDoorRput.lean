/-
  The walks of the document's Put and PutAll: the bytes of one number, laid from the last one on, and of many. Conditions: of PutAll, at most 10000 numbers.
-/
import Derived.Test.YteajbcngimccmaaDoorApp
namespace Go.Proofs.YteajbcngimccmaaDoor
open Go.RowKit

def RpRel (w : World) (n0 : Int) (t i : Value) (wr : World) : Prop :=
  ∃ (k : Nat) (ys : List Int) (n : Int), k ≤ (vb n0 0).length ∧ i = .int .i64 (k : Int) ∧ t = .int .i64 n ∧ n = n0 / 128 ^ k ∧ 0 ≤ n ∧ n < 72057594037927936 ∧ ys.length = (vb n0 0).length ∧ ys.drop ((vb n0 0).length - k) = (vb n0 0).drop ((vb n0 0).length - k) ∧
    wr.ownsRow w.heap.size 5 1 (.slice (some ⟨w.heap.size, 0, none⟩) (vb n0 0).length (vb n0 0).length) (vb n0 0).length (ys.map (Value.int .u8)) ∧ Below w.heap.size w wr

theorem drop_step {ys xs : List Int} {j : Nat} {v : Int} (hl : ys.length = xs.length) (hj : j < xs.length) (h : ys.drop (j + 1) = xs.drop (j + 1)) (hv : xs[j]? = some v) : (ys.set j v).drop j = xs.drop j := by
  rw [List.drop_eq_getElem_cons (by simp; omega), List.drop_eq_getElem_cons (l := xs) hj]
  have e : xs[j] = v := by simpa [List.getElem?_eq_getElem hj] using hv
  rw [List.getElem_set_self, e, List.drop_set_of_lt (by omega), h]

theorem rp_step {w wr' : World} {n0 n v : Int} {k j : Nat} {ys : List Int} (hk : k + j + 1 = (vb n0 0).length) (hn : n = n0 / 128 ^ k) (n0' : 0 ≤ n) (n1' : n < 72057594037927936) (hyl : ys.length = (vb n0 0).length)
    (hyd : ys.drop ((vb n0 0).length - k) = (vb n0 0).drop ((vb n0 0).length - k)) (hv : (vb n0 0)[j]? = some v)
    (hown : wr'.ownsRow w.heap.size 5 1 (.slice (some ⟨w.heap.size, 0, none⟩) (vb n0 0).length (vb n0 0).length) (vb n0 0).length ((ys.map (Value.int .u8)).set j (.int .u8 v))) (hbel : Below w.heap.size w wr') :
    RpRel w n0 (.int .i64 (n / 128)) (.int .i64 ((k : Int) + 1)) wr' := by
  have e1 : (vb n0 0).length - k = j + 1 := by omega
  have e2 : (vb n0 0).length - (k + 1) = j := by omega
  rw [e1] at hyd
  refine ⟨k + 1, ys.set j v, n / 128, by omega, by go_num, rfl, ?_, by omega, by omega, by simpa using hyl, ?_, ?_, hbel⟩
  · rw [hn, Int.pow_succ, Int.ediv_ediv_of_nonneg (Int.pow_nonneg (by omega))]
  · rw [e2]; exact drop_step hyl (by omega) hyd hv
  · rw [List.map_set]; exact hown

theorem made_bytes (k : Nat) : (madeCells (Value.int .u8 0).cells (k * 1)).toList = (List.replicate k (0 : Int)).map (Value.int .u8) := by
  rw [Nat.mul_one]
  show (madeCells #[.int .u8 0] k).toList = _
  rw [toList_madeCells_one]
  simp

set_option maxHeartbeats 800000 in
theorem rput_yes (n0 : Int) (w : World) (h0 : 0 ≤ n0) (h : n0 < 72057594037927936) : Calls Tryd.prog 31 #[.int .i64 n0] w (PutPost w .u8 (vb n0 0) 0) := by
  obtain ⟨i0, hi, hz0, hz1, hz2⟩ := info_parts info5
  have HZ := Lib.hid (rsize_yes n0 w h0 h)
  have hl : (vb n0 0).length ≤ 8 := vb_le8 h
  have hp := vb_pos n0 0
  have hne : (((vb n0 0).length : Int) == 0) = false := by rw [beq_eq_false_iff_ne]; omega
  have HV := Lib.hid (fun i => vb_at i n0 0)
  go_enter Tryd.func31, Tryd.ntmps31
  go_wp2_with (first | (go_at_call 37; refine HZ.out.mono ?_; rintro e w' ⟨rfl, rfl⟩) | (at_make; refine wpList_make_full _ rfl _ _ 25 rfl w.heap.size 5 i0 (.int .u8 0) 1 Tryd.underlying25 hi hz0 hz1 _ _ _ _ (vb n0 0).length rfl rfl rfl rfl (by rw [hz2]; omega) (by unfold maxLen; omega) (Nat.le_refl _) ?_; intro w1 hown1 hgrow1))
  go_loopw [0, 6] (fun t i wr => RpRel w n0 t i wr) (fun _ i _ => 8 - (intOf i).toNat)
  case atStart =>
    refine ⟨0, List.replicate (vb n0 0).length 0, n0, by omega, rfl, rfl, by simp, h0, h, by simp, by simp, ?_, (Below.refl _ _).grown hgrow1 (Nat.le_refl _) (by simp)⟩
    rw [made_bytes] at hown1
    exact hown1
  case round =>
    obtain ⟨k, ys, n, hk, rfl, rfl, hn, n0', n1', hyl, hyd, hown, hbel⟩ := hrel
    have HN := Lib.hid hn
    have HY := Lib.hid hyl
    have HD := Lib.hid hyd
    clear hn hyl hyd
    by_cases hlt : k < (vb n0 0).length
    · have hv := HV.out k hlt
      rw [← HN.out] at hv
      have HV' := Lib.hid hv
      clear hv
      obtain ⟨j, hj⟩ : ∃ j, (vb n0 0).length - 1 - k = j := ⟨_, rfl⟩
      have hjk : k + j + 1 = (vb n0 0).length := by omega
      rw [hj] at HV'
      have cj : wr.cell? ⟨w.heap.size, j, none⟩ = some (.int .u8 (ys.getD j 0)) := by
        rw [hown.cellAt j (by omega), List.getElem?_map, List.getElem?_eq_getElem (by rw [HY.out]; omega)]
        simp [List.getD, List.getElem?_eq_getElem (show j < ys.length by rw [HY.out]; omega)]
      have fj := hown.frozenAt j
      have hjn : ((vb n0 0).length : Int) - 1 - (k : Int) = (j : Int) := by omega
      have HJ := Lib.hid hj
      have HK := Lib.hid hjk
      have hj8 : j < (vb n0 0).length := by omega
      clear hj hjk
      by_cases hk0 : k = 0
      · subst hk0
        have hjn' : ((vb n0 0).length : Int) - 1 = (j : Int) := by omega
        clear hjn
        go_wp2
        go_roundw
        case rel =>
          have hv := HV'.out
          rw [if_pos rfl, Int.add_zero] at hv
          exact rp_step HK.out HN.out n0' n1' HY.out HD.out hv (hown.stored j (.int .u8 (n % 128))).1 (hbel.setCell (by show w.heap.size ≤ w.heap.size; omega) _)
        case measure => simp [intOf]
      · have hk1 : 0 < k := by omega
        go_wp2
        go_roundw
        case rel =>
          have hv := HV'.out
          rw [if_neg hk0] at hv
          have q1 := hown.stored j (.int .u8 (n % 128))
          have q2 := q1.1.stored j (.int .u8 (n % 128 + 128))
          refine rp_step HK.out HN.out n0' n1' HY.out HD.out hv ?_ ((hbel.setCell (by show w.heap.size ≤ w.heap.size; omega) _).setCell (by show w.heap.size ≤ w.heap.size; omega) _)
          have := q2.1
          rwa [List.set_set] at this
        case measure => simp [intOf]; omega
    · go_wp2
      go_ret2
      have e : (vb n0 0).length - k = 0 := by omega
      have hyd := HD.out
      rw [e, List.drop_zero, List.drop_zero] at hyd
      rw [hyd] at hown
      obtain ⟨A', c', hv, hs'⟩ := own_slice hown
      exact ⟨A', c', by rw [← hv]; rfl, hs', hbel⟩

theorem rput_no (n : Int) (w : World) (h : n < 0 ∨ 72057594037927936 ≤ n) : Calls Tryd.prog 31 #[.int .i64 n] w fun e w' => e = .returned (.tuple #[.slice none 0 0, .int .i64 1]) ∧ w = w' := by
  have HZ := Lib.hid (rsize_no n w h)
  clear h
  go_enter Tryd.func31, Tryd.ntmps31
  go_wp2_with (go_at_call 37; refine HZ.out.mono ?_; rintro e w' ⟨rfl, rfl⟩)
  go_ret2
  exact ⟨rfl, rfl⟩

set_option maxHeartbeats 400000 in
theorem rputall_any (A : Option Addr) (c : Nat) (l : List Int) (w : World) (hl : l.length ≤ 10000) (hs : Sl w w.heap.size .i64 A l) : Calls Tryd.prog 20 #[.slice A l.length c] w (AllPost w l) := by
  obtain ⟨i0, hi, hz0, hz1, hz2⟩ := info_parts info5
  go_enter Tryd.func20, Tryd.ntmps20
  go_wp2
  go_loopw [4, 5] (fun v i wr => AllRel w l v i wr) (fun _ i _ => l.length - (intOf i).toNat)
  case atStart => exact ⟨0, Nat.zero_le _, rfl, rfl, World.ownsRow_nil _ _ _ _, Below.refl _ _⟩
  case round =>
    obtain ⟨k, hk, rfl, hok, hown, hbel⟩ := hrel
    by_cases hlt : k < l.length
    · obtain ⟨b, off, rfl, hb, hc⟩ := (hs.below hbel).at_ hlt
      by_cases hn : okB (l.getD k 0) = true
      · obtain ⟨n0, n1⟩ := okB_bd hn
        have hpl := pb_le _ hok
        have hvl : (vb (l.getD k 0) 0).length ≤ 8 := vb_le8 n1
        rw [List.length_take] at hpl
        have HD := Lib.hid (rput_yes (l.getD k 0) wr n0 n1)
        have HOK' : Hid (okAll (l.take (k + 1)) = true) := by rw [okAll_snoc l k hlt, hok, hn]; rfl
        have HS := Lib.hid (pb_snoc l k hlt)
        have hsz := hbel.size
        generalize l.getD k 0 = n at *
        generalize pb (l.take k) = ys at *
        generalize vb n 0 = zs at *
        clear hn hok
        go_wp2_with (first | (go_at_call 31; refine HD.out.mono ?_; rintro e w2 ⟨A2, c2, rfl, ⟨hs2, hc2⟩, hb2⟩; have hown2 : w2.ownsRow w.heap.size 5 1 _ ys.length (ys.map (Value.int .u8)) := hown.kept (row := none) ⟨hb2.os, hb2.tape, hb2.output, hb2.size, fun q hq _ => hb2.block q hq⟩ (by cases Value.ownBlock _ <;> simp)) | (at_builtin; refine wpList_app rfl (.tmp 25) (.tmp 26) 25 rfl w.heap.size 5 i0 (.int .u8 0) 1 Tryd.underlying25 hi hz0 hz1 hz2 rfl _ ys.length (ys.map (Value.int .u8)) rfl hown2 w2.heap.size .u8 A2 c2 zs rfl hs2 (by unfold maxLen; omega) (by omega) (Nat.le_trans hsz hb2.size) ?_; intro v' w3 hown3 hgrow3))
        go_roundw
        case rel =>
          have hbb := hbel.trans (hb2.mono hsz)
          refine ⟨k + 1, by omega, by go_num, HOK'.out, ?_, hbb.grown hgrow3 hbb.size (fun q hq => (hown2.lt q hq).1)⟩
          rw [HS.out]
          simpa using hown3
        case measure => simp [intOf]; omega
      · have hn' : okB (l.getD k 0) = false := by simpa using hn
        have HN : Hid (okAll l = false) := okAll_not l k hlt hn'
        have HD := Lib.hid (rput_no (l.getD k 0) wr (okB_nb hn'))
        generalize l.getD k 0 = n at *
        clear hn hn' hok hown
        go_wp2_with (go_at_call 31; refine HD.out.mono ?_; rintro e w' ⟨rfl, rfl⟩)
        go_ret2
        exact .inr ⟨HN.out, rfl, hbel⟩
    · obtain rfl : k = l.length := by omega
      have HOK := Lib.hid hok
      clear hok
      go_wp2
      go_ret2
      rw [List.take_length] at hown HOK
      exact .inl ⟨HOK.out, _, rfl, hown, hbel⟩

end Go.Proofs.YteajbcngimccmaaDoor
