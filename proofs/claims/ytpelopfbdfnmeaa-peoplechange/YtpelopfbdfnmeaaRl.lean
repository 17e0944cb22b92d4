/-
  The walk of the document's own Leave: all the others. Conditions: at most 1000 members.
-/
import Derived.Test.YtpelopfbdfnmeaaRj
namespace Go.Proofs.Ytpelopfbdfnmeaa
open Go.RowKit
set_option linter.unusedVariables false

theorem rleave_arg (a o : Int) (A : Option Addr) (c : Nat) (l : List Int) (n : Int) (w : World) (hl : l.length ≤ 1000) (hc : l.length ≤ c) (hs : Sl w w.heap.size .i64 A l) (hm : mb a o l = false) : Calls Try.prog 12 #[.agg #[.int .i64 a, .int .i64 o, .slice A l.length c], .int .i64 n] w (ChPost w (Ch.none, 1)) := by
  have BW : Below w.heap.size w ((w.alloc (.cells #[.int .i64 a, .int .i64 o, .slice A l.length c] 24)).alloc (.cells #[.int .i64 0, .int .i64 0, .slice none 0 0] 24)) := ((Below.refl _ _).alloc (Nat.le_refl _) _).alloc (by simp) _
  have C0 : Cx ((w.alloc (.cells #[.int .i64 a, .int .i64 o, .slice A l.length c] 24)).alloc (.cells #[.int .i64 0, .int .i64 0, .slice none 0 0] 24)) w.heap.size a o A l.length c := (cx_new w a o A l.length c).old _
  have X0 : Cx ((w.alloc (.cells #[.int .i64 a, .int .i64 o, .slice A l.length c] 24)).alloc (.cells #[.int .i64 0, .int .i64 0, .slice none 0 0] 24)) (w.heap.size + 1) 0 0 none 0 0 := by
    have := cx_new (w.alloc (.cells #[.int .i64 a, .int .i64 o, .slice A l.length c] 24)) 0 0 none 0 0
    rw [show (w.alloc (.cells #[.int .i64 a, .int .i64 o, .slice A l.length c] 24)).heap.size = w.heap.size + 1 by simp] at this
    exact this
  have Z0 : ((w.alloc (.cells #[.int .i64 a, .int .i64 o, .slice A l.length c] 24)).alloc (.cells #[.int .i64 0, .int .i64 0, .slice none 0 0] 24)).heap.size = w.heap.size + 2 := by simp
  have HM : Hid (Calls Try.prog 17 #[.agg #[.int .i64 a, .int .i64 o, .slice A l.length c]] ((w.alloc (.cells #[.int .i64 a, .int .i64 o, .slice A l.length c] 24)).alloc (.cells #[.int .i64 0, .int .i64 0, .slice none 0 0] 24)) (BoolPost ((w.alloc (.cells #[.int .i64 a, .int .i64 o, .slice A l.length c] 24)).alloc (.cells #[.int .i64 0, .int .i64 0, .slice none 0 0] 24)) (mb a o l))) := rmay_any a o A c l _ hl (hs.to BW BW.size)
  rw [hm] at HM
  obtain ⟨p0, p1, p2⟩ := C0.cb
  go_enter Try.func12, Try.ntmps12
  go_wp2_with fail
  generalize ((w.alloc (.cells #[.int .i64 a, .int .i64 o, .slice A l.length c] 24)).alloc (.cells #[.int .i64 0, .int .i64 0, .slice none 0 0] 24)) = W0 at *
  clear p0 p1 p2
  refine HM.out.mono ?_
  rintro e w1 ⟨rfl, B1⟩
  have BE := BW.trans (B1.mono BW.size)
  have C1 := C0.on B1 C0.lt
  have X1 := X0.on B1 X0.lt
  obtain ⟨p0, p1, p2⟩ := C1.cb
  obtain ⟨q0, q1, q2⟩ := X1.cb
  have f0 := X1.free 0
  have f1 := X1.free 1
  have f2 := X1.free 2
  go_wp2_with fail
  exact bodyPost_ret (run_res12 (B := w.heap.size + 1) rfl rfl (X1.put 0 0 none 0 0).cb) rfl ⟨none, 0, rfl, Nat.le_refl _, .nil, put_below _ BE (by omega) _ _ _⟩

theorem rleave_none (a o : Int) (A : Option Addr) (c : Nat) (l : List Int) (n : Int) (w : World) (hl : l.length ≤ 1000) (hc : l.length ≤ c) (hs : Sl w w.heap.size .i64 A l) (hm : mb a o l = true) (hn : ¬ n ∈ l) : Calls Try.prog 12 #[.agg #[.int .i64 a, .int .i64 o, .slice A l.length c], .int .i64 n] w (ChPost w (Ch.none, 5)) := by
  have BW : Below w.heap.size w ((w.alloc (.cells #[.int .i64 a, .int .i64 o, .slice A l.length c] 24)).alloc (.cells #[.int .i64 0, .int .i64 0, .slice none 0 0] 24)) := ((Below.refl _ _).alloc (Nat.le_refl _) _).alloc (by simp) _
  have C0 : Cx ((w.alloc (.cells #[.int .i64 a, .int .i64 o, .slice A l.length c] 24)).alloc (.cells #[.int .i64 0, .int .i64 0, .slice none 0 0] 24)) w.heap.size a o A l.length c := (cx_new w a o A l.length c).old _
  have X0 : Cx ((w.alloc (.cells #[.int .i64 a, .int .i64 o, .slice A l.length c] 24)).alloc (.cells #[.int .i64 0, .int .i64 0, .slice none 0 0] 24)) (w.heap.size + 1) 0 0 none 0 0 := by
    have := cx_new (w.alloc (.cells #[.int .i64 a, .int .i64 o, .slice A l.length c] 24)) 0 0 none 0 0
    rw [show (w.alloc (.cells #[.int .i64 a, .int .i64 o, .slice A l.length c] 24)).heap.size = w.heap.size + 1 by simp] at this
    exact this
  have Z0 : ((w.alloc (.cells #[.int .i64 a, .int .i64 o, .slice A l.length c] 24)).alloc (.cells #[.int .i64 0, .int .i64 0, .slice none 0 0] 24)).heap.size = w.heap.size + 2 := by simp
  have HM : Hid (Calls Try.prog 17 #[.agg #[.int .i64 a, .int .i64 o, .slice A l.length c]] ((w.alloc (.cells #[.int .i64 a, .int .i64 o, .slice A l.length c] 24)).alloc (.cells #[.int .i64 0, .int .i64 0, .slice none 0 0] 24)) (BoolPost ((w.alloc (.cells #[.int .i64 a, .int .i64 o, .slice A l.length c] 24)).alloc (.cells #[.int .i64 0, .int .i64 0, .slice none 0 0] 24)) (mb a o l))) := rmay_any a o A c l _ hl (hs.to BW BW.size)
  have HH : Hid (∀ W, Below w.heap.size w W → Calls Try.prog 24 #[.slice A l.length c, .int .i64 n] W fun e w' => e = .returned (.bool (decide (n ∈ l))) ∧ W = w') := fun W hB => rhas_any A c w.heap.size l n W hl (hs.below hB)
  rw [hm] at HM
  rw [decide_eq_false hn] at HH
  obtain ⟨p0, p1, p2⟩ := C0.cb
  go_enter Try.func12, Try.ntmps12
  go_wp2_with fail
  generalize ((w.alloc (.cells #[.int .i64 a, .int .i64 o, .slice A l.length c] 24)).alloc (.cells #[.int .i64 0, .int .i64 0, .slice none 0 0] 24)) = W0 at *
  clear p0 p1 p2
  refine HM.out.mono ?_
  rintro e w1 ⟨rfl, B1⟩
  have BE := BW.trans (B1.mono BW.size)
  have C1 := C0.on B1 C0.lt
  have X1 := X0.on B1 X0.lt
  have HS1 := Lib.hid (HH.out w1 BE)
  clear HH
  obtain ⟨p0, p1, p2⟩ := C1.cb
  obtain ⟨q0, q1, q2⟩ := X1.cb
  have f0 := X1.free 0
  have f1 := X1.free 1
  have f2 := X1.free 2
  go_wp2_with fail
  refine HS1.out.mono ?_
  rintro e w2 ⟨rfl, rfl⟩
  go_wp2_with fail
  exact bodyPost_ret (run_res12 (B := w.heap.size + 1) rfl rfl (X1.put 0 0 none 0 0).cb) rfl ⟨none, 0, rfl, Nat.le_refl _, .nil, put_below _ BE (by omega) _ _ _⟩

theorem rleave_deny (a o : Int) (A : Option Addr) (c : Nat) (l : List Int) (n : Int) (w : World) (hl : l.length ≤ 1000) (hc : l.length ≤ c) (hs : Sl w w.heap.size .i64 A l) (hm : mb a o l = true) (hn : n ∈ l) (ho : o = n) : Calls Try.prog 12 #[.agg #[.int .i64 a, .int .i64 o, .slice A l.length c], .int .i64 n] w (ChPost w (Ch.none, 8)) := by
  have BW : Below w.heap.size w ((w.alloc (.cells #[.int .i64 a, .int .i64 o, .slice A l.length c] 24)).alloc (.cells #[.int .i64 0, .int .i64 0, .slice none 0 0] 24)) := ((Below.refl _ _).alloc (Nat.le_refl _) _).alloc (by simp) _
  have C0 : Cx ((w.alloc (.cells #[.int .i64 a, .int .i64 o, .slice A l.length c] 24)).alloc (.cells #[.int .i64 0, .int .i64 0, .slice none 0 0] 24)) w.heap.size a o A l.length c := (cx_new w a o A l.length c).old _
  have X0 : Cx ((w.alloc (.cells #[.int .i64 a, .int .i64 o, .slice A l.length c] 24)).alloc (.cells #[.int .i64 0, .int .i64 0, .slice none 0 0] 24)) (w.heap.size + 1) 0 0 none 0 0 := by
    have := cx_new (w.alloc (.cells #[.int .i64 a, .int .i64 o, .slice A l.length c] 24)) 0 0 none 0 0
    rw [show (w.alloc (.cells #[.int .i64 a, .int .i64 o, .slice A l.length c] 24)).heap.size = w.heap.size + 1 by simp] at this
    exact this
  have Z0 : ((w.alloc (.cells #[.int .i64 a, .int .i64 o, .slice A l.length c] 24)).alloc (.cells #[.int .i64 0, .int .i64 0, .slice none 0 0] 24)).heap.size = w.heap.size + 2 := by simp
  have HM : Hid (Calls Try.prog 17 #[.agg #[.int .i64 a, .int .i64 o, .slice A l.length c]] ((w.alloc (.cells #[.int .i64 a, .int .i64 o, .slice A l.length c] 24)).alloc (.cells #[.int .i64 0, .int .i64 0, .slice none 0 0] 24)) (BoolPost ((w.alloc (.cells #[.int .i64 a, .int .i64 o, .slice A l.length c] 24)).alloc (.cells #[.int .i64 0, .int .i64 0, .slice none 0 0] 24)) (mb a o l))) := rmay_any a o A c l _ hl (hs.to BW BW.size)
  have HH : Hid (∀ W, Below w.heap.size w W → Calls Try.prog 24 #[.slice A l.length c, .int .i64 n] W fun e w' => e = .returned (.bool (decide (n ∈ l))) ∧ W = w') := fun W hB => rhas_any A c w.heap.size l n W hl (hs.below hB)
  rw [hm] at HM
  rw [decide_eq_true hn] at HH
  subst ho
  obtain ⟨p0, p1, p2⟩ := C0.cb
  go_enter Try.func12, Try.ntmps12
  go_wp2_with fail
  generalize ((w.alloc (.cells #[.int .i64 a, .int .i64 o, .slice A l.length c] 24)).alloc (.cells #[.int .i64 0, .int .i64 0, .slice none 0 0] 24)) = W0 at *
  clear p0 p1 p2
  refine HM.out.mono ?_
  rintro e w1 ⟨rfl, B1⟩
  have BE := BW.trans (B1.mono BW.size)
  have C1 := C0.on B1 C0.lt
  have X1 := X0.on B1 X0.lt
  have HS1 := Lib.hid (HH.out w1 BE)
  clear HH
  obtain ⟨p0, p1, p2⟩ := C1.cb
  obtain ⟨q0, q1, q2⟩ := X1.cb
  have f0 := X1.free 0
  have f1 := X1.free 1
  have f2 := X1.free 2
  go_wp2_with fail
  refine HS1.out.mono ?_
  rintro e w2 ⟨rfl, rfl⟩
  go_wp2_with fail
  exact bodyPost_ret (run_res12 (B := w.heap.size + 1) rfl rfl (X1.put 0 0 none 0 0).cb) rfl ⟨none, 0, rfl, Nat.le_refl _, .nil, put_below _ BE (by omega) _ _ _⟩


theorem del_take {n : Int} {l : List Int} {k : Nat} (hk : k < l.length) : del n (l.take (k + 1)) = if l.getD k 0 = n then del n (l.take k) else del n (l.take k) ++ [l.getD k 0] := by
  rw [List.take_add_one, getD_some hk]
  unfold del
  rw [List.filter_append]
  by_cases h : l.getD k 0 = n
  · rw [if_pos h]
    show _ ++ List.filter _ [l.getD k 0] = _
    rw [List.filter_cons, if_neg (by rw [decide_eq_true_eq]; exact fun q => q h)]
    exact List.append_nil _
  · rw [if_neg h]
    show _ ++ List.filter _ [l.getD k 0] = _
    rw [List.filter_cons, if_pos (by rw [decide_eq_true_eq]; exact h)]
    rfl
theorem del_short (n : Int) (l : List Int) (k : Nat) : (del n (l.take k)).length ≤ k := by
  have h := List.length_filter_le (fun x => decide (x ≠ n)) (l.take k)
  rw [List.length_take] at h
  unfold del
  omega

set_option maxHeartbeats 4000000 in
theorem rleave_ok (a o : Int) (A : Option Addr) (c : Nat) (l : List Int) (n : Int) (w : World) (hl : l.length ≤ 1000) (hc : l.length ≤ c) (hs : Sl w w.heap.size .i64 A l) (hm : mb a o l = true) (hn : n ∈ l) (ho : (o == n) = false) : Calls Try.prog 12 #[.agg #[.int .i64 a, .int .i64 o, .slice A l.length c], .int .i64 n] w (ChPost w (⟨a, o, del n l⟩, 0)) := by
  obtain ⟨i0, hi, hz0, hz1, hz2⟩ := info_parts info3
  have BW : Below w.heap.size w ((w.alloc (.cells #[.int .i64 a, .int .i64 o, .slice A l.length c] 24)).alloc (.cells #[.int .i64 0, .int .i64 0, .slice none 0 0] 24)) := ((Below.refl _ _).alloc (Nat.le_refl _) _).alloc (by simp) _
  have C0 : Cx ((w.alloc (.cells #[.int .i64 a, .int .i64 o, .slice A l.length c] 24)).alloc (.cells #[.int .i64 0, .int .i64 0, .slice none 0 0] 24)) w.heap.size a o A l.length c := (cx_new w a o A l.length c).old _
  have X0 : Cx ((w.alloc (.cells #[.int .i64 a, .int .i64 o, .slice A l.length c] 24)).alloc (.cells #[.int .i64 0, .int .i64 0, .slice none 0 0] 24)) (w.heap.size + 1) 0 0 none 0 0 := by
    have := cx_new (w.alloc (.cells #[.int .i64 a, .int .i64 o, .slice A l.length c] 24)) 0 0 none 0 0
    rw [show (w.alloc (.cells #[.int .i64 a, .int .i64 o, .slice A l.length c] 24)).heap.size = w.heap.size + 1 by simp] at this
    exact this
  have Z0 : ((w.alloc (.cells #[.int .i64 a, .int .i64 o, .slice A l.length c] 24)).alloc (.cells #[.int .i64 0, .int .i64 0, .slice none 0 0] 24)).heap.size = w.heap.size + 2 := by simp
  have HM : Hid (Calls Try.prog 17 #[.agg #[.int .i64 a, .int .i64 o, .slice A l.length c]] ((w.alloc (.cells #[.int .i64 a, .int .i64 o, .slice A l.length c] 24)).alloc (.cells #[.int .i64 0, .int .i64 0, .slice none 0 0] 24)) (BoolPost ((w.alloc (.cells #[.int .i64 a, .int .i64 o, .slice A l.length c] 24)).alloc (.cells #[.int .i64 0, .int .i64 0, .slice none 0 0] 24)) (mb a o l))) := rmay_any a o A c l _ hl (hs.to BW BW.size)
  have HH : Hid (∀ W, Below w.heap.size w W → Calls Try.prog 24 #[.slice A l.length c, .int .i64 n] W fun e w' => e = .returned (.bool (decide (n ∈ l))) ∧ W = w') := fun W hB => rhas_any A c w.heap.size l n W hl (hs.below hB)
  rw [hm] at HM
  rw [decide_eq_true hn] at HH
  have HL : Hid (∀ k, (del n (l.take k)).length ≤ k) := fun k => del_short n l k
  have HT : Hid (∀ k, k < l.length → del n (l.take (k + 1)) = if l.getD k 0 = n then del n (l.take k) else del n (l.take k) ++ [l.getD k 0]) := fun k hk => del_take hk
  have HE : Hid (del n (l.take l.length) = del n l) := Lib.hid (by rw [List.take_length])
  have HS0 := Lib.hid (hs.to BW BW.size)
  clear hs hn
  generalize del n l = l' at *
  obtain ⟨p0, p1, p2⟩ := C0.cb
  go_enter Try.func12, Try.ntmps12
  go_wp2_with fail
  generalize ((w.alloc (.cells #[.int .i64 a, .int .i64 o, .slice A l.length c] 24)).alloc (.cells #[.int .i64 0, .int .i64 0, .slice none 0 0] 24)) = W0 at *
  clear p0 p1 p2
  refine HM.out.mono ?_
  rintro e w1 ⟨rfl, B1⟩
  have BE := BW.trans (B1.mono BW.size)
  have C1 := C0.on B1 C0.lt
  have X1 := X0.on B1 X0.lt
  have HS1 := Lib.hid (HH.out w1 BE)
  clear HH
  have s1 := B1.size
  have HS2 : Sl w1 w1.heap.size .i64 A l := HS0.out.to B1 s1
  obtain ⟨p0, p1, p2⟩ := C1.cb
  obtain ⟨q0, q1, q2⟩ := X1.cb
  have f0 := X1.free 0
  have f1 := X1.free 1
  have f2 := X1.free 2
  go_wp2_with fail
  refine HS1.out.mono ?_
  rintro e w2 ⟨rfl, rfl⟩
  go_wp2
  clear p0 p1 p2 q0 q1 q2 f0 f1 f2 HM HS1 HS0
  go_loopw [8, 9] (fun m i wr => ∃ k : Nat, k ≤ l.length ∧ i = .int .i64 (k : Int) ∧ Hid (wr.ownsRow w1.heap.size 3 1 m (del n (l.take k)).length ((del n (l.take k)).map (Value.int .i64))) ∧ Below w1.heap.size w1 wr) (fun _ i _ => l.length - (intOf i).toNat)
  case atStart => exact ⟨0, by omega, rfl, World.ownsRow_nil _ _ _ _, Below.refl _ _⟩
  case round =>
    obtain ⟨k, hk, rfl, hown, hB⟩ := hrel
    have hsz := hB.size
    have HL1 := HL.out k
    obtain ⟨p0, p1, p2⟩ := C1.cb.on hB (by omega)
    by_cases hlt : k < l.length
    · obtain ⟨b, off, rfl, hbl, hcell0⟩ := HS2.at_ hlt
      have hcell := (hB.cell (p := ⟨b, off + k, none⟩) hbl).trans hcell0
      have HT1 := Lib.hid (HT.out k hlt)
      have hki : (k : Int) < (l.length : Int) := by omega
      clear HT HL HE
      generalize del n (l.take k) = xs at *
      generalize l.getD k 0 = x at *
      by_cases hx : x = n
      · have HT2 : Hid (del n (l.take (k + 1)) = xs) := Lib.hid (by rw [HT1.out, if_pos hx])
        clear HT1
        subst hx
        go_wp2
        go_roundw
        case rel => exact ⟨k + 1, by omega, by go_num, by rw [HT2.out]; exact hown, hB⟩
        case measure => simp [intOf]; omega
      · have HT2 : Hid (del n (l.take (k + 1)) = xs ++ [x]) := Lib.hid (by rw [HT1.out, if_neg hx])
        clear HT1
        have hx2 : (x == n) = false := by rw [beq_eq_false_iff_ne]; exact hx
        go_wp2_with ((at_builtin; refine wpList_append_own _ rfl (.tmp 41) (.tmp 47) 22 rfl w1.heap.size 3 i0 (.int .i64 0) 1 8 Try.underlying22 hi hz0 hz1 hz2 rfl (by decide) _ xs.length (xs.map (Value.int .i64)) rfl (hown.out.alloc _) ⟨wr.heap.size, 0, none⟩ 1 1 [.int .i64 x] rfl rfl (one_cell wr x) (one_one x) (by unfold maxLen; omega) (by omega) (by simp; omega) ?_; intro v4 w4 hown4 hgrow4 _; have g4 := Lib.hid (own_more hown4 rfl rfl); have BB4 := (hB.alloc hsz _).grown hgrow4 (by simp; omega) (fun k hk => (hown.out.lt k hk).1)))
        go_roundw
        case rel => exact ⟨k + 1, by omega, by go_num, by rw [HT2.out]; exact g4, BB4⟩
        case measure => simp [intOf]; omega
    · obtain rfl : k = l.length := by omega
      clear HT HL
      generalize del n (l.take l.length) = xs at *
      obtain rfl := HE.out
      clear HE
      obtain ⟨E, ce, rfl, hce, hf⟩ := own_fr hown.out
      have XX := X1.on hB (by omega)
      obtain ⟨q0, q1, q2⟩ := XX.cb
      have f0 := XX.free 0
      have f1 := XX.free 1
      have f2 := XX.free 2
      go_wp2_with fail
      exact bodyPost_ret (run_res12 (B := w.heap.size + 1) rfl rfl (XX.put a o E xs.length ce).cb) rfl ⟨E, ce, rfl, hce, (((hf.set _ (by show w.heap.size + 1 < w1.heap.size; omega) _).set _ (by show w.heap.size + 1 < w1.heap.size; omega) _).set _ (by show w.heap.size + 1 < w1.heap.size; omega) _).low (by omega), put_below _ (BE.trans (hB.mono BE.size)) (by omega) _ _ _⟩

theorem rleave_any (a o : Int) (A : Option Addr) (c : Nat) (l : List Int) (n : Int) (w : World) (hl : l.length ≤ 1000) (hc : l.length ≤ c) (hs : Sl w w.heap.size .i64 A l) : Calls Try.prog 12 #[.agg #[.int .i64 a, .int .i64 o, .slice A l.length c], .int .i64 n] w (ChPost w (leaves ⟨a, o, l⟩ n)) := by
  unfold leaves
  by_cases hm : mb a o l = true
  · rw [if_neg (fun q => q (mb_iff.1 hm))]
    by_cases hn : n ∈ l
    · rw [if_neg (fun q => q hn)]
      by_cases ho : o = n
      · rw [if_pos ho]; exact rleave_deny a o A c l n w hl hc hs hm hn ho
      · rw [if_neg ho]; exact rleave_ok a o A c l n w hl hc hs hm hn (by rw [beq_eq_false_iff_ne]; exact ho)
    · rw [if_pos hn]; exact rleave_none a o A c l n w hl hc hs hm hn
  · rw [if_pos (fun q => hm (mb_iff.2 q))]
    exact rleave_arg a o A c l n w hl hc hs (by simpa using hm)

end Go.Proofs.Ytpelopfbdfnmeaa
