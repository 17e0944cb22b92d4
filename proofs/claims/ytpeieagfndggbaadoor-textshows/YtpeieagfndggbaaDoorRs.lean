/-
  The walk of the document's Show: the line that asks for something, or that it can't be asked for, is what the plain theory says. Conditions: the text has at most 10^5 bytes.
-/
import Derived.Test.YtpeieagfndggbaaDoorRw
import Derived.Test.YtpeieagfndggbaaDoorRm
import Derived.Test.YtpeieagfndggbaaDoorRn
import Derived.Test.YtpeieagfndggbaaDoorRg
namespace Go.Proofs.YtpeieagfndggbaaDoor
open Go.RowKit Tx

theorem rsh_k1 (u s k h n : Int) (t : ByteArray) (w : World) (i1 : k < 1) : Calls Tryd.prog 15 #[cv u s k h n t] w (ShPost w ([], 1)) := by
  go_enter Tryd.func15, Tryd.ntmps15
  go_wp2
  go_ret2
  exact ⟨⟨⟨#[]⟩, rfl, rfl⟩, (Below.refl _ _).alloc (Nat.le_refl _) _⟩
theorem rsh_k8 (u s k h n : Int) (t : ByteArray) (w : World) (i1 : ¬ k < 1) (i2 : 8 ≤ k) : Calls Tryd.prog 15 #[cv u s k h n t] w (ShPost w ([], 1)) := by
  go_enter Tryd.func15, Tryd.ntmps15
  go_wp2
  go_ret2
  exact ⟨⟨⟨#[]⟩, rfl, rfl⟩, (Below.refl _ _).alloc (Nat.le_refl _) _⟩
theorem rsh_h1 (u s k h n : Int) (t : ByteArray) (w : World) (i1 : ¬ k < 1) (i2 : ¬ 8 ≤ k) (i3 : h < 1) : Calls Tryd.prog 15 #[cv u s k h n t] w (ShPost w ([], 1)) := by
  go_enter Tryd.func15, Tryd.ntmps15
  go_wp2
  go_ret2
  exact ⟨⟨⟨#[]⟩, rfl, rfl⟩, (Below.refl _ _).alloc (Nat.le_refl _) _⟩
theorem rsh_h2 (u s k h n : Int) (t : ByteArray) (w : World) (i1 : ¬ k < 1) (i2 : ¬ 8 ≤ k) (i3 : ¬ h < 1) (i4 : 1048576 < h) : Calls Tryd.prog 15 #[cv u s k h n t] w (ShPost w ([], 1)) := by
  go_enter Tryd.func15, Tryd.ntmps15
  go_wp2
  go_ret2
  exact ⟨⟨⟨#[]⟩, rfl, rfl⟩, (Below.refl _ _).alloc (Nat.le_refl _) _⟩

theorem shown_not {k h n : Int} {t : List Nat} (q : ¬ sayable k h n t = true) : shown k h n t = ([], 1) := by unfold shown; rw [if_neg q]
theorem shown_line {k h n : Int} {t : List Nat} (q : sayable k h n t = true) : shown k h n t = (line ⟨k.toNat, h.toNat, n.toNat, t⟩, 0) := by unfold shown; rw [if_pos q]
theorem wS_size {K : Nat} (hK : 1 ≤ K ∧ K ≤ 7) : (wS K).size ≤ 10 := by refine kinds (P := fun k => (wS k).size ≤ 10) hK ?_ ?_ ?_ ?_ ?_ ?_ ?_ <;> decide
/-- What the document's Show has put together ahead of its number: the slash, the word, a space, the channel's digits. -/
def head2 (K H : Nat) : List Nat := 47 :: (wd K ++ (32 :: dg H))
theorem line_head {K H n : Nat} {t : List Nat} : line ⟨K, H, n, t⟩ = head2 K H ++ ((if numbered K = true then 32 :: dg n else []) ++ (if worded K = true then 32 :: t else [])) := by
  unfold line head2 lnum lend
  simp only [List.cons_append, List.append_assoc]
theorem head_nt {K H : Nat} (hK : 1 ≤ K ∧ K ≤ 7) {d : ByteArray} (hd : nt d = dg H) : nt ((({ data := #[47] } : ByteArray) ++ wS K ++ { data := #[32] }) ++ d) = head2 K H := by
  rw [nt_append, nt_append, nt_append, nt_wS hK, hd]
  unfold head2
  show ([47] ++ wd K ++ [32]) ++ dg H = _
  simp
theorem head_len {K H : Nat} (hK : 1 ≤ K ∧ K ≤ 7) (hH : H ≤ 1048576) : (head2 K H).length ≤ 40 := by
  have h1 := dg_len (n := H) (k := 10) (by omega)
  have h2 : (wd K).length ≤ 10 := by refine kinds (P := fun k => (wd k).length ≤ 10) hK ?_ ?_ ?_ ?_ ?_ ?_ ?_ <;> decide
  unfold head2
  rw [List.length_cons, List.length_append, List.length_cons]
  omega
theorem shown_ok {K H : Nat} {n : Int} {t : List Nat} (hK : 1 ≤ K ∧ K ≤ 7) (hH : 1 ≤ H ∧ H ≤ 1048576) (hn : numbered K = true → 1 ≤ n ∧ n ≤ 1073741824) (hw : worded K = true → may t = true) : shown K H n t = (head2 K H ++ ((if numbered K = true then 32 :: dg n.toNat else []) ++ (if worded K = true then 32 :: t else [])), 0) := by
  have q : sayable K H n t = true := say_iff.2 ⟨by omega, by omega, by rw [Int.toNat_natCast]; exact hn, by rw [Int.toNat_natCast]; exact hw⟩
  rw [shown_line q, Int.toNat_natCast, Int.toNat_natCast, line_head]
theorem shown_no_n {K H : Nat} {n : Int} {t : List Nat} (hn : numbered K = true) (h : ¬ (1 ≤ n ∧ n ≤ 1073741824)) : shown K H n t = ([], 1) :=
  shown_not fun q => h ((say_iff.1 q).2.2.1 (by rw [Int.toNat_natCast]; exact hn))
theorem shown_no_t {K H : Nat} {n : Int} {t : List Nat} (hw : worded K = true) (h : may t = false) : shown K H n t = ([], 1) :=
  shown_not fun q => by
    have := (say_iff.1 q).2.2.2 (by rw [Int.toNat_natCast]; exact hw)
    rw [h] at this; cases this
set_option maxHeartbeats 4000000 in
set_option maxRecDepth 100000 in
theorem rsh_any (u s n : Int) (K H : Nat) (t : ByteArray) (w : World) (hK : 1 ≤ K ∧ K ≤ 7) (hH : 1 ≤ H ∧ H ≤ 1048576) (ht : t.size ≤ 100000) : Calls Tryd.prog 15 #[cv u s K H n t] w (ShPost w (shown K H n (nt t))) := by
  obtain ⟨r, hr⟩ : ∃ r, shown K H n (nt t) = r := ⟨_, rfl⟩
  rw [hr]
  have i1 : ¬ (K : Int) < 1 := by omega
  have i2 : ¬ 8 ≤ (K : Int) := by omega
  have i3 : ¬ (H : Int) < 1 := by omega
  have i4 : ¬ 1048576 < (H : Int) := by omega
  have i5 : (0 : Int) ≤ (K : Int) := by omega
  have i6 : (K : Int) < 8 := by omega
  have HW := fun W => Lib.hid (rwords_at W)
  have HD := fun W => Lib.hid (rdigits_any H W (by omega))
  have hsz := wS_size hK
  go_enter Tryd.func15, Tryd.ntmps15
  have b0 : Below w.heap.size w (w.alloc (.cells #[.int .i64 u, .int .i64 s, .int .i64 K, .int .i64 H, .int .i64 n, .string t] 24)) := (Below.refl _ _).alloc (Nat.le_refl _) _
  have hc0 := cx_new' w u s K H n t
  go_wp2_with fail
  generalize w.alloc (.cells #[.int .i64 u, .int .i64 s, .int .i64 K, .int .i64 H, .int .i64 n, .string t] 24) = w0 at *
  refine (HW w0).out.mono ?_
  rintro e w1 ⟨rfl, hrow, c1⟩
  have hr1 := hrow K hK.1 (by omega)
  have hc1 := hc0.on c1 hc0.lt
  have b1 := b0.trans (c1.mono b0.size)
  clear hc0 b0 HW hrow
  obtain ⟨d0, d1, d2, d3, d4, d5⟩ := hc1.cl
  have q1 : ¬ 9223372036854775807 < 1 + (wS K).size := by omega
  have q2 : ¬ 9223372036854775807 < (({ data := #[47] } : ByteArray) ++ wS K).size + 1 := by
    have : (({ data := #[47] } : ByteArray) ++ wS K).size = 1 + (wS K).size := by rw [ByteArray.size_append]; rfl
    omega
  go_wp2_with fail
  rename_i K0 hK0
  have q2' : ¬ 9223372036854775807 < 1 + (wS K).size + 1 := by omega
  have hq3 : ∀ d : ByteArray, nt d = dg H → ¬ 9223372036854775807 < (({ data := #[47] } : ByteArray) ++ wS K ++ { data := #[32] }).size + d.size ∧ ¬ 9223372036854775807 < 1 + (wS K).size + 1 + d.size := by
    intro d hd
    have h1 := dg_len (n := H) (k := 10) (by omega)
    rw [← hd, nt_len] at h1
    have h2 : (({ data := #[47] } : ByteArray) ++ wS K ++ { data := #[32] }).size = 1 + (wS K).size + 1 := by rw [ByteArray.size_append, ByteArray.size_append]; rfl
    exact ⟨by omega, by omega⟩
  have HQ3 := fun d h => Lib.hid (hq3 d h)
  clear hsz hq3
  have REST : ∀ (W : World) (dd S : ByteArray), nt S = head2 K H → Cx W w.heap.size u s K H n t → Below w.heap.size w W →
      K0 { tmps := #[cv u s K H n t, .pointer (some ⟨w.heap.size, 0, none⟩), .string ⟨#[]⟩, .int .i64 0, .slice (some ⟨w0.heap.size, 0, none⟩) 8 8, .string S, undef, undef, .pointer (some ⟨w.heap.size, 2, none⟩), .int .i64 K, .bool false, .bool false, .pointer (some ⟨w.heap.size, 2, none⟩), .int .i64 K, .bool false, .bool false, .bool false, .pointer (some ⟨w.heap.size, 3, none⟩), .int .i64 H, .bool false, .bool false, .bool false, .pointer (some ⟨w.heap.size, 3, none⟩), .int .i64 H, .bool false, .bool false, .slice (some ⟨w0.heap.size, 0, none⟩) 8 8, .slice (some ⟨w0.heap.size, 0, none⟩) 8 8, .pointer (some ⟨w.heap.size, 2, none⟩), .int .i64 K, .pointer (some ⟨w0.heap.size, K, none⟩), .string (wS K), .string ({ data := #[47] } ++ wS K), .string ({ data := #[47] } ++ wS K ++ { data := #[32] }), .pointer (some ⟨w.heap.size, 3, none⟩), .int .i64 H, .string dd, .string S, undef, undef, undef, undef, undef, undef, undef, undef, undef, undef, undef, undef, undef, undef, undef, undef, undef, undef, undef, undef, undef, undef, undef, undef, undef, undef, undef, undef, undef, undef, undef, undef, undef, undef, undef, undef], defers := [] } W := by
    intro W dd S Se hcW hbW
    refine hK0 _ _ ?_
    have hSl : S.size ≤ 40 := by rw [← nt_len, Se]; exact head_len hK hH.2
    have H28 := fun W => Lib.hid (rnumb_any K W)
    have H29 := fun W => Lib.hid (rword_any K W)
    have H13 := fun W => Lib.hid (rmay_any t W)
    clear hK0 HQ3 HD q1 q2 q2' d0 d1 d2 d3 d4 d5 b1 hc1 c1 hr1 i1 i2 i3 i4 i5 i6
    generalize ({ data := #[47] } ++ wS K ++ { data := #[32] } : ByteArray) = G1 at *
    generalize ({ data := #[47] } ++ wS K : ByteArray) = G2 at *
    generalize w0.heap.size = B0 at *
    obtain ⟨c0, c1, c2, c3, c4, c5⟩ := hcW.cl
    cases hnb : numbered K
    · rw [hnb] at H28
      go_wp2_with fail
      refine (H28 _).out.mono ?_
      rintro e w3 ⟨rfl, rfl⟩
      go_wp2_with fail
      cases hw : worded K
      · rw [hw] at H29
        obtain rfl : r = (nt S, 0) := hr.symm.trans (by rw [shown_ok hK hH (by rw [hnb]; intro q; cases q) (by rw [hw]; intro q; cases q), hw, hnb, Se]; simp)
        refine (H29 _).out.mono ?_
        rintro e wA ⟨rfl, rfl⟩
        clear hr
        generalize may (nt t) = M at *
        go_wp2_with fail
        refine (H13 _).out.mono ?_
        rintro e wB ⟨rfl, rfl⟩
        go_wp2
        go_ret2
        exact ⟨⟨S, rfl, rfl⟩, hbW⟩
      · rw [hw] at H29
        cases hm : may (nt t)
        · rw [hm] at H13
          obtain rfl : r = ([], 1) := hr.symm.trans (shown_no_t hw hm)
          refine (H29 _).out.mono ?_
          rintro e wA ⟨rfl, rfl⟩
          clear hr hm
          go_wp2_with fail
          refine (H13 _).out.mono ?_
          rintro e wB ⟨rfl, rfl⟩
          go_wp2
          go_ret2
          exact ⟨⟨⟨#[]⟩, rfl, rfl⟩, hbW⟩
        · rw [hm] at H13
          obtain rfl : r = (nt S ++ 32 :: nt t, 0) := hr.symm.trans (by rw [shown_ok hK hH (by rw [hnb]; intro q; cases q) (fun _ => hm), hw, hnb, Se]; simp)
          refine (H29 _).out.mono ?_
          rintro e wA ⟨rfl, rfl⟩
          clear hr hm
          have z1 : ¬ 9223372036854775807 < S.size + 1 := by omega
          have z2 : ¬ 9223372036854775807 < S.size + 1 + t.size := by omega
          have z3 : ¬ 9223372036854775807 < (S ++ ({ data := #[32] } : ByteArray)).size + t.size := by
            have : (S ++ ({ data := #[32] } : ByteArray)).size = S.size + 1 := by rw [ByteArray.size_append]; rfl
            omega
          have hfin : nt (S ++ ({ data := #[32] } : ByteArray) ++ t) = nt S ++ 32 :: nt t := by
            rw [nt_append, nt_append, List.append_assoc]; rfl
          go_wp2_with fail
          refine (H13 _).out.mono ?_
          rintro e wB ⟨rfl, rfl⟩
          go_wp2
          go_ret2
          exact ⟨⟨_, hfin, rfl⟩, hbW⟩
    · rw [hnb] at H28
      by_cases n1 : n < 1
      · obtain rfl : r = ([], 1) := hr.symm.trans (shown_no_n hnb (by omega))
        clear hr
        go_wp2_with fail
        refine (H28 _).out.mono ?_
        rintro e w3 ⟨rfl, rfl⟩
        go_wp2
        go_ret2
        exact ⟨⟨⟨#[]⟩, rfl, rfl⟩, hbW⟩
      · by_cases n2 : 1073741824 < n
        · obtain rfl : r = ([], 1) := hr.symm.trans (shown_no_n hnb (by omega))
          clear hr
          go_wp2_with fail
          refine (H28 _).out.mono ?_
          rintro e w3 ⟨rfl, rfl⟩
          go_wp2
          go_ret2
          exact ⟨⟨⟨#[]⟩, rfl, rfl⟩, hbW⟩
        · obtain ⟨N, rfl⟩ : ∃ N : Nat, n = N := ⟨n.toNat, by omega⟩
          have H36 := fun W => Lib.hid (rdigits_any N W (by omega))
          have z1 : ¬ 9223372036854775807 < S.size + 1 := by omega
          go_wp2_with fail
          refine (H28 _).out.mono ?_
          rintro e w3 ⟨rfl, rfl⟩
          go_wp2_with fail
          refine (H36 _).out.mono ?_
          rintro e w4 ⟨⟨d2, hd2, rfl⟩, b4⟩
          have hc4 := hcW.on b4 hcW.lt
          have hb4 := hbW.trans (b4.mono hbW.size)
          clear c0 c1 c2 c3 c4 c5 hcW hbW b4 H36 H28
          obtain ⟨c0, c1, c2, c3, c4, c5⟩ := hc4.cl
          have hdl : d2.size ≤ 10 := by
            have h1 := dg_len (n := N) (k := 10) (by omega)
            rw [← hd2, nt_len] at h1
            exact h1
          have z4 : (S ++ ({ data := #[32] } : ByteArray)).size = S.size + 1 := by rw [ByteArray.size_append]; rfl
          have z2 : ¬ 9223372036854775807 < S.size + 1 + d2.size := by omega
          have z3 : ¬ 9223372036854775807 < (S ++ ({ data := #[32] } : ByteArray)).size + d2.size := by omega
          have z5 : (S ++ ({ data := #[32] } : ByteArray) ++ d2).size ≤ 60 := by rw [ByteArray.size_append]; omega
          have S2e : nt (S ++ ({ data := #[32] } : ByteArray) ++ d2) = head2 K H ++ 32 :: dg N := by
            rw [nt_append, nt_append, Se, hd2, List.append_assoc]; rfl
          clear z4 z1
          go_wp2_with fail
          generalize S ++ ({ data := #[32] } : ByteArray) ++ d2 = S2 at *
          clear z2 z3
          cases hw : worded K
          · rw [hw] at H29
            obtain rfl : r = (nt S2, 0) := hr.symm.trans (by rw [shown_ok hK hH (fun _ => by omega) (by rw [hw]; intro q; cases q), hw, hnb, S2e]; simp)
            refine (H29 _).out.mono ?_
            rintro e wA ⟨rfl, rfl⟩
            clear hr
            generalize may (nt t) = M at *
            go_wp2_with fail
            refine (H13 _).out.mono ?_
            rintro e wB ⟨rfl, rfl⟩
            go_wp2
            go_ret2
            exact ⟨⟨S2, rfl, rfl⟩, hb4⟩
          · rw [hw] at H29
            cases hm : may (nt t)
            · rw [hm] at H13
              obtain rfl : r = ([], 1) := hr.symm.trans (shown_no_t hw hm)
              refine (H29 _).out.mono ?_
              rintro e wA ⟨rfl, rfl⟩
              clear hr hm
              go_wp2_with fail
              refine (H13 _).out.mono ?_
              rintro e wB ⟨rfl, rfl⟩
              go_wp2
              go_ret2
              exact ⟨⟨⟨#[]⟩, rfl, rfl⟩, hb4⟩
            · rw [hm] at H13
              obtain rfl : r = (nt S2 ++ 32 :: nt t, 0) := hr.symm.trans (by rw [shown_ok hK hH (fun _ => by omega) (fun _ => hm), hw, hnb, S2e]; simp)
              refine (H29 _).out.mono ?_
              rintro e wA ⟨rfl, rfl⟩
              clear hr hm
              have z1 : ¬ 9223372036854775807 < S2.size + 1 := by omega
              have z2 : ¬ 9223372036854775807 < S2.size + 1 + t.size := by omega
              have z3 : ¬ 9223372036854775807 < (S2 ++ ({ data := #[32] } : ByteArray)).size + t.size := by
                have : (S2 ++ ({ data := #[32] } : ByteArray)).size = S2.size + 1 := by rw [ByteArray.size_append]; rfl
                omega
              have hfin : nt (S2 ++ ({ data := #[32] } : ByteArray) ++ t) = nt S2 ++ 32 :: nt t := by
                rw [nt_append, nt_append, List.append_assoc]; rfl
              go_wp2_with fail
              refine (H13 _).out.mono ?_
              rintro e wB ⟨rfl, rfl⟩
              go_wp2
              go_ret2
              exact ⟨⟨_, hfin, rfl⟩, hb4⟩
  go_region_with (go_at_call 36; refine (HD _).out.mono ?_; rintro e w2 ⟨⟨dd, hdd, rfl⟩, cb⟩; obtain ⟨q3, q3'⟩ := (HQ3 dd hdd).out; have hc2 : Cx w2 w.heap.size u s K H n t := Cx.on (w := w1.drew) hc1 cb hc1.lt; have hrw2 : w2.cell? ⟨w0.heap.size, K, none⟩ = some (.string (wS K)) := (cb.cell (p := ⟨w0.heap.size, K, none⟩) (World.block_lt_of_cell? w1 _ hr1)).trans hr1; obtain ⟨f0, f1, f2, f3, f4, f5⟩ := hc2.cl)
  all_goals show K0 _ _
  all_goals exact REST w2 dd _ (head_nt hK hdd) hc2 (b1.drew.trans (cb.mono b1.size))
theorem rshow_any (u s k h n : Int) (t : ByteArray) (w : World) (ht : t.size ≤ 100000) : Calls Tryd.prog 15 #[cv u s k h n t] w (ShPost w (shown k h n (nt t))) := by
  by_cases k1 : k < 1
  · rw [shown_not (fun q => by have := (say_iff.1 q).1; omega)]
    exact rsh_k1 u s k h n t w k1
  · by_cases k2 : 8 ≤ k
    · rw [shown_not (fun q => by have := (say_iff.1 q).1; omega)]
      exact rsh_k8 u s k h n t w k1 k2
    · by_cases h1 : h < 1
      · rw [shown_not (fun q => by have := (say_iff.1 q).2.1; omega)]
        exact rsh_h1 u s k h n t w k1 k2 h1
      · by_cases h2 : 1048576 < h
        · rw [shown_not (fun q => by have := (say_iff.1 q).2.1; omega)]
          exact rsh_h2 u s k h n t w k1 k2 h1 h2
        · obtain ⟨K, rfl⟩ : ∃ K : Nat, k = K := ⟨k.toNat, by omega⟩
          obtain ⟨H, rfl⟩ : ∃ H : Nat, h = H := ⟨h.toNat, by omega⟩
          exact rsh_any u s n K H t w (by omega) (by omega) ht
end Go.Proofs.YtpeieagfndggbaaDoor
