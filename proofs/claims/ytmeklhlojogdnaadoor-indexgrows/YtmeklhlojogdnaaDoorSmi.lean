/-
  The walks of index's small functions (among, nothing, mayBeKnown, meetsOne, New) and of the document's (bound, may): they answer what 'am', 'mb' and 'mts' say. No conditions beyond the number of keys.
-/
import Derived.Test.YtmeklhlojogdnaaDoorIxm
import Derived.Lib.MinMax
import Derived.Deep.RegionLaw
import Derived.OwnWalk
namespace Go.Proofs.YtmeklhlojogdnaaDoor
open Go.RowKit
set_option linter.unusedVariables false

theorem among_any (n : Int) (w : World) : Calls Tryd.prog 22 #[.int .i64 n] w fun e w' => e = .returned (.int .i64 (am n)) ∧ w' = w := by
  have HA := Lib.hid (show am n = min (max n 1) 7 from rfl)
  go_enter Tryd.func22, Tryd.ntmps22
  go_wp2
  go_ret
  exact ⟨by rw [HA.out]; rfl, rfl⟩

theorem bound_any (n : Int) (w : World) : Calls Tryd.prog 26 #[.int .i64 n] w fun e w' => e = .returned (.int .i64 (am n)) ∧ w' = w := by
  have HA := Lib.hid (show am n = min (max n 1) 7 from rfl)
  by_cases h1 : n < 1
  · go_enter Tryd.func26, Tryd.ntmps26
    go_wp2
    go_ret
    exact ⟨by rw [HA.out, Int.max_eq_right (by omega)]; rfl, rfl⟩
  · by_cases h2 : 7 < n
    · go_enter Tryd.func26, Tryd.ntmps26
      go_wp2
      go_ret
      exact ⟨by rw [HA.out, Int.max_eq_left (by omega), Int.min_eq_right (by omega)]; rfl, rfl⟩
    · go_enter Tryd.func26, Tryd.ntmps26
      go_wp2
      go_ret
      exact ⟨by rw [HA.out, Int.max_eq_left (by omega), Int.min_eq_left (by omega)]; rfl, rfl⟩

theorem may24_any (i : Int × Int) (n : Int) (w : World) : Calls Tryd.prog 24 #[iv i, .int .i64 n] w (BoolPost w (mb i n)) := by
  obtain ⟨a, b⟩ := i
  have BE : Below w.heap.size w (w.alloc (.cells #[.int .i64 a, .int .i64 b] 26)) := (Below.refl _ _).alloc (Nat.le_refl _) _
  have HB := Lib.hid BE
  have HM := Lib.hid (show mb (a, b) n = (decide (1 ≤ a) && (decide (a ≤ n) && (decide (1 ≤ b) && decide (b ≤ 1048576)))) from rfl)
  clear BE
  by_cases h1 : 1 ≤ a
  · by_cases h2 : a ≤ n
    · by_cases h3 : 1 ≤ b
      · by_cases h4 : b ≤ 1048576
        · go_enter Tryd.func24, Tryd.ntmps24
          go_wp2
          go_ret
          exact ⟨by rw [HM.out, decide_eq_true h1, decide_eq_true h2, decide_eq_true h3, decide_eq_true h4]; rfl, HB.out⟩
        · go_enter Tryd.func24, Tryd.ntmps24
          go_wp2
          go_ret
          exact ⟨by rw [HM.out, decide_eq_true h1, decide_eq_true h2, decide_eq_true h3, decide_eq_false (by omega)]; rfl, HB.out⟩
      · go_enter Tryd.func24, Tryd.ntmps24
        go_wp2
        go_ret
        exact ⟨by rw [HM.out, decide_eq_true h1, decide_eq_true h2, decide_eq_false (by omega)]; rfl, HB.out⟩
    · go_enter Tryd.func24, Tryd.ntmps24
      go_wp2
      go_ret
      exact ⟨by rw [HM.out, decide_eq_true h1, decide_eq_false (by omega)]; rfl, HB.out⟩
  · go_enter Tryd.func24, Tryd.ntmps24
    go_wp2
    go_ret
    exact ⟨by rw [HM.out, decide_eq_false (by omega)]; rfl, HB.out⟩

theorem may27_any (i : Int × Int) (n : Int) (w : World) : Calls Tryd.prog 27 #[iv i, .int .i64 n] w (BoolPost w (mb i n)) := by
  obtain ⟨a, b⟩ := i
  have BE : Below w.heap.size w (w.alloc (.cells #[.int .i64 a, .int .i64 b] 26)) := (Below.refl _ _).alloc (Nat.le_refl _) _
  have HB := Lib.hid BE
  have HM := Lib.hid (show mb (a, b) n = (decide (1 ≤ a) && (decide (a ≤ n) && (decide (1 ≤ b) && decide (b ≤ 1048576)))) from rfl)
  clear BE
  by_cases h1 : 1 ≤ a
  · by_cases h2 : a ≤ n
    · by_cases h3 : 1 ≤ b
      · by_cases h4 : b ≤ 1048576
        · go_enter Tryd.func27, Tryd.ntmps27
          go_wp2
          go_ret
          exact ⟨by rw [HM.out, decide_eq_true h1, decide_eq_true h2, decide_eq_true h3, decide_eq_true h4]; rfl, HB.out⟩
        · go_enter Tryd.func27, Tryd.ntmps27
          go_wp2
          go_ret
          exact ⟨by rw [HM.out, decide_eq_true h1, decide_eq_true h2, decide_eq_true h3, decide_eq_false (by omega)]; rfl, HB.out⟩
      · go_enter Tryd.func27, Tryd.ntmps27
        go_wp2
        go_ret
        exact ⟨by rw [HM.out, decide_eq_true h1, decide_eq_true h2, decide_eq_false (by omega)]; rfl, HB.out⟩
    · go_enter Tryd.func27, Tryd.ntmps27
      go_wp2
      go_ret
      exact ⟨by rw [HM.out, decide_eq_true h1, decide_eq_false (by omega)]; rfl, HB.out⟩
  · go_enter Tryd.func27, Tryd.ntmps27
    go_wp2
    go_ret
    exact ⟨by rw [HM.out, decide_eq_false (by omega)]; rfl, HB.out⟩

/-- A new index. -/
theorem new_any (n : Int) (w : World) : Calls Tryd.prog 13 #[.int .i64 n] w fun e w' => e = .returned (.pointer (some ⟨w.heap.size, 0, none⟩)) ∧ w' = w.alloc (.cells #[.int .i64 n, .map none, .map none] 55) := by
  go_enter Tryd.func13, Tryd.ntmps13
  go_wp2
  go_ret
  exact ⟨rfl, rfl⟩

/-- The call gave an attribute whose deps are a row of its own. -/
def AxPost (w : World) (a : Int) (xs : List Int) (e : Ending) (w' : World) : Prop := ∃ g, e = .returned (.agg #[.int .i64 a, .slice (some ⟨g, 0, none⟩) xs.length xs.length]) ∧ At.Rx w' g xs ∧ w.heap.size ≤ g ∧ Below w.heap.size w w'

theorem run_res23 {V : World} {tm : Array Value} {B : Nat} {a : Int} {A : Option Addr} {n c : Nat} (h2 : tm[2]?.getD undef = .pointer (some ⟨B, 0, none⟩)) (hb : At.Rb V B a A n c) :
    (results Tryd.f23 tm).run Tryd.prog V = .ok (.agg #[.int .i64 a, .slice A n c]) V := by
  obtain ⟨c0, c1⟩ := hb
  simp [results, Tryd.results23, h2, go_sem, c0, c1]

theorem nothing_any (N : Nat) (hN : N ≤ 1000) (w : World) : Calls Tryd.prog 23 #[.int .i64 (N : Int)] w (AxPost w 1 (List.replicate N 0)) := by
  obtain ⟨i0, hi, hz0, hz1, hz2⟩ := info_parts At.info3
  have hn0 : (0 : Int) ≤ (N : Int) := by omega
  have BN : Below w.heap.size w (w.alloc (.cells #[.int .i64 0, .slice none 0 0] 32)) := (Below.refl _ _).alloc (Nat.le_refl _) _
  have X0 := At.ax_new w 0 none 0 0
  have ZN : (w.alloc (.cells #[.int .i64 0, .slice none 0 0] 32)).heap.size = w.heap.size + 1 := by simp
  have hbase := BN.size
  go_enter Tryd.func23, Tryd.ntmps23
  go_wp2_with (at_make; refine wpList_make_full _ rfl _ _ 30 rfl w.heap.size 3 i0 (.int .i64 0) 1 Tryd.underlying30 hi hz0 hz1 _ _ _ _ N rfl rfl rfl rfl (by rw [hz2]; omega) (by unfold maxLen; omega) hbase ?_; intro w2 hown2 hgrow2; have X2 : At.Ax w2 w.heap.size 0 none 0 0 := (hgrow2.block w.heap.size (by simp) (by simp)).trans X0; have Bw2 := BN.grown hgrow2 hbase (by simp); rw [At.made_ints] at hown2; have R2 := Lib.hid (At.rx_made hown2); obtain ⟨p0, p1⟩ := X2.rb; have f0 := X2.free 0; have f1 := X2.free 1; clear hown2 hgrow2)
  rw [ZN] at R2
  have X9 : At.Ax ((w2.setCell ⟨w.heap.size, 0, none⟩ (.int .i64 1)).setCell ⟨w.heap.size, 1, none⟩ (.slice (some ⟨w.heap.size + 1, 0, none⟩) N N)) w.heap.size 1 (some ⟨w.heap.size + 1, 0, none⟩) N N := (X2.set0 1).set1 _ _ _
  have R9 : At.Rx ((w2.setCell ⟨w.heap.size, 0, none⟩ (.int .i64 1)).setCell ⟨w.heap.size, 1, none⟩ (.slice (some ⟨w.heap.size + 1, 0, none⟩) N N)) (w.heap.size + 1) (List.replicate N 0) := (R2.out.other (by show w.heap.size + 1 ≠ w.heap.size; omega) _).other (by show w.heap.size + 1 ≠ w.heap.size; omega) _
  have E9 : Below w.heap.size w ((w2.setCell ⟨w.heap.size, 0, none⟩ (.int .i64 1)).setCell ⟨w.heap.size, 1, none⟩ (.slice (some ⟨w.heap.size + 1, 0, none⟩) N N)) := (Bw2.setCell (Nat.le_refl _) _).setCell (Nat.le_refl _) _
  refine bodyPost_ret (run_res23 (B := w.heap.size) rfl X9.rb) rfl ⟨w.heap.size + 1, ?_, R9, by omega, E9⟩
  simp

set_option maxHeartbeats 1000000 in
theorem idxk42 (P : Nat) (f : Ky → Bool) (S : World → Prop) (hS : ∀ W W', S W → Below W.heap.size W W' → S W')
    (HF : ∀ x W, S W → Hid (Calls Tryd.prog 42 #[kv x.a x.i x.c, .pointer (some ⟨P, 0, none⟩)] W (BoolPost W (f x)))) (A : Option Addr) (c : Nat) (l : List Ky) (w : World) (hs : Ks w w.heap.size A l) (hw : S w) (hl : l.length ≤ 1000000) :
    Calls Tryd.prog 51 #[.slice A l.length c, .func (.func 42) #[] #[.pointer (some ⟨P, 0, none⟩)]] w (IdxPost w (l.any f)) := by
  have HS := Lib.hid hs
  clear hs
  go_enter Tryd.func51, Tryd.ntmps51
  go_wp2
  go_loopw [8] (fun t wr => ∃ k : Nat, k ≤ l.length ∧ t = .int .i64 (k : Int) ∧ Below w.heap.size w wr ∧ (l.take k).any f = false) (fun t _ => 1000001 - (intOf t).toNat)
  case atStart => exact ⟨0, Nat.zero_le _, rfl, Below.refl _ _, rfl⟩
  case round =>
    obtain ⟨k, hk, rfl, hbel, hno⟩ := hrel
    have HN := Lib.hid hno
    clear hno
    by_cases hlt : k < l.length
    · have hlti : (k : Int) < (l.length : Int) := by omega
      rcases (HS.out.below hbel (Nat.le_refl _)) with rfl | ⟨b, off, rfl, hb, hc⟩
      · simp at hlt
      obtain ⟨q0, q1, q2⟩ := hc k l[k] (List.getElem?_eq_getElem hlt)
      have hsz := hbel.size
      have hb' : b < wr.heap.size := by omega
      have HC := HF l[k] wr (hS _ _ hw hbel)
      have HT : Hid ((l.take (k + 1)).any f = f l[k]) := by
        show _ = _
        rw [List.take_succ_eq_append_getElem hlt, List.any_append, HN.out]; simp
      have HL : Hid (f l[k] = true → l.any f = true) := fun h => List.any_eq_true.2 ⟨l[k], List.getElem_mem hlt, h⟩
      generalize l[k] = x at *
      obtain ⟨xa, xi, xc⟩ := x
      generalize f ⟨xa, xi, xc⟩ = r at *
      clear hc
      have h0 : (0 : Int) ≤ (k : Int) := by omega
      cases r
      · go_wp2_with fail
        refine HC.out.mono ?_
        rintro e w1 ⟨rfl, hb1⟩
        go_wp2
        go_roundw
        case rel => exact ⟨k + 1, by omega, by go_num, hbel.trans (hb1.mono hsz), HT.out⟩
        case measure => simp [intOf]; omega
      · go_wp2_with fail
        refine HC.out.mono ?_
        rintro e w1 ⟨rfl, hb1⟩
        go_wp2
        go_ret
        exact ⟨(k : Int), rfl, by rw [HL.out trivial]; exact decide_eq_true h0, hbel.trans (hb1.mono hsz)⟩
    · obtain rfl : k = l.length := by omega
      have hno := HN.out
      rw [List.take_length] at hno
      have HN' := Lib.hid hno
      clear hno HN HF
      go_wp2
      go_ret
      exact ⟨-1, rfl, by rw [HN'.out]; rfl, hbel⟩

theorem conk42 (P : Nat) (f : Ky → Bool) (S : World → Prop) (hS : ∀ W W', S W → Below W.heap.size W W' → S W')
    (HF : ∀ x W, S W → Hid (Calls Tryd.prog 42 #[kv x.a x.i x.c, .pointer (some ⟨P, 0, none⟩)] W (BoolPost W (f x)))) (A : Option Addr) (c : Nat) (l : List Ky) (w : World) (hs : Ks w w.heap.size A l) (hw : S w) (hl : l.length ≤ 1000000) :
    Calls Tryd.prog 41 #[.slice A l.length c, .func (.func 42) #[] #[.pointer (some ⟨P, 0, none⟩)]] w (BoolPost w (l.any f)) := by
  have H : Hid (Calls Tryd.prog 51 #[.slice A l.length c, .func (.func 42) #[] #[.pointer (some ⟨P, 0, none⟩)]] w (IdxPost w (l.any f))) := idxk42 P f S hS HF A c l w hs hw hl
  generalize l.any f = b at *
  clear HF hs
  go_enter Tryd.func41, Tryd.ntmps41
  go_wp2_with fail
  refine H.out.mono ?_
  rintro e w1 ⟨r, rfl, hr, hb1⟩
  go_wp2
  go_ret
  exact ⟨rfl, hb1⟩

theorem in42_any (P : Nat) (x y : Ky) (w : World) (hk : Kb w P x.a x.i x.c) : Calls Tryd.prog 42 #[kv y.a y.i y.c, .pointer (some ⟨P, 0, none⟩)] w (BoolPost w (mt x y)) := by
  have HM : ∀ W, Hid (Calls Tryd.prog 43 #[kv x.a x.i x.c, kv y.a y.i y.c] W (BoolPost W (mt x y))) := fun W => meet_any x y W
  generalize mt x y = b at *
  obtain ⟨xa, xi, xc⟩ := x
  obtain ⟨ya, yi, yc⟩ := y
  have hlt := hk.lt
  obtain ⟨p0, p1, p2⟩ := hk
  have hlt1 : P < w.heap.size + 1 := by omega
  go_enter Tryd.func42, Tryd.ntmps42
  go_wp2_with fail
  refine (HM _).out.mono ?_
  rintro e w1 ⟨rfl, hb1⟩
  go_wp2
  go_ret
  exact ⟨rfl, ((Below.refl _ _).alloc (Nat.le_refl _) _).trans (hb1.mono (by simp))⟩

/-- Does a key meet one of some? -/
theorem meets_any (x : Ky) (A : Option Addr) (c : Nat) (l : List Ky) (w : World) (hl : l.length ≤ 1000000) (hs : Ks w w.heap.size A l) :
    Calls Tryd.prog 32 #[kv x.a x.i x.c, .slice A l.length c] w (BoolPost w (mts l x)) := by
  have B0 : Below w.heap.size w (w.alloc (.cells #[.bool x.a, .int .i64 x.i, .bool x.c] 60)) := (Below.refl _ _).alloc (Nat.le_refl _) _
  have C0 := kb_new w x.a x.i x.c
  have HC : Hid (Calls Tryd.prog 41 #[.slice A l.length c, .func (.func 42) #[] #[.pointer (some ⟨w.heap.size, 0, none⟩)]] (w.alloc (.cells #[.bool x.a, .int .i64 x.i, .bool x.c] 60)) (BoolPost (w.alloc (.cells #[.bool x.a, .int .i64 x.i, .bool x.c] 60)) (mts l x))) :=
    conk42 w.heap.size (mt x) (fun W => Kb W w.heap.size x.a x.i x.c) (fun W W' h hb => h.on hb h.lt) (fun y W h => in42_any w.heap.size x y W h) A c l _ ((hs.below B0 (Nat.le_refl _)).mono (by simp)) C0 hl
  generalize mts l x = b at *
  obtain ⟨xa, xi, xc⟩ := x
  clear C0 hs
  have hmf : ∀ (fn : Fn) (first cap : Array Value) (w : World), (Instr.makeFunc fn first cap).run Tryd.prog w = .ok (.func fn first cap) w := fun _ _ _ _ => rfl
  go_enter Tryd.func32, Tryd.ntmps32
  go_wp2_with fail
  refine HC.out.mono ?_
  rintro e w1 ⟨rfl, hb1⟩
  go_wp2
  go_ret
  exact ⟨rfl, B0.trans (hb1.mono (by simp))⟩

end Go.Proofs.YtmeklhlojogdnaaDoor
