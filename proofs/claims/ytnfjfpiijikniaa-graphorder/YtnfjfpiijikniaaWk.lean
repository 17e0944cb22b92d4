/-
  The walk of graph.walk: what is reached by things that were not seen before, each told behind all that was gone to from it. Conditions: at most 1000 things; what was seen is closed.
-/
import Derived.Test.YtnfjfpiijikniaaRd
import Derived.Deep.AppendLies
import Derived.Deep.LoopGhost
namespace Go.Proofs.Ytnfjfpiijikniaa.Gp
open Go.RowKit
set_option linter.unusedVariables false

/-- Things as values. -/
def iv (l : List Nat) : List Value := l.map (fun (x : Nat) => Value.int .i64 (x : Int))
theorem iv_len (l : List Nat) : (iv l).length = l.length := by simp [iv]
theorem iv_snoc (l : List Nat) (x : Nat) : iv (l ++ [x]) = iv l ++ [.int .i64 (x : Int)] := by simp [iv]

theorem own_same {w w' : World} {base : Nat} {e : TypeId} {v : Value} {n : Nat} {xs : List Value} (h : w.ownsRow base e 1 v n xs) (hg : ∀ g, v.ownBlock = some g → w'.heap[g]? = w.heap[g]?) : w'.ownsRow base e 1 v n xs := by
  refine ⟨h.1, ?_⟩
  rcases h.2 with h0 | ⟨g, cap, cur, rfl, hb, hh, h1, h2, h3, h4⟩
  · exact .inl h0
  · exact .inr ⟨g, cap, cur, rfl, hb, (hg g rfl).trans hh, h1, h2, h3, h4⟩
theorem own_cut {w : World} {base : Nat} {e : TypeId} {g c n : Nat} {xs : List Value} {x : Value} (h : w.ownsRow base e 1 (.slice (some ⟨g, 0, none⟩) (n + 1) c) (n + 1) (xs ++ [x])) : w.ownsRow base e 1 (.slice (some ⟨g, 0, none⟩) n c) n xs := by
  have hl := h.1
  simp at hl
  rcases h.2 with ⟨h0, _⟩ | ⟨g', cap, cur, hv, hb, hh, h1, h2, h3, h4⟩
  · cases h0
  · simp only [Value.slice.injEq, Option.some.injEq, Addr.mk.injEq] at hv
    obtain ⟨⟨rfl, _⟩, _, rfl⟩ := hv
    refine ⟨by simpa using hl, .inr ⟨g, c, cur, rfl, hb, hh, by omega, h2, h3, ?_⟩⟩
    have := congrArg (List.take n) h4
    rw [List.take_take, show min n ((n + 1) * 1) = n by omega, List.take_append_of_le_length (Nat.le_of_eq hl.symm), List.take_of_length_le (Nat.le_of_eq hl)] at this
    rw [Nat.mul_one]
    exact this
theorem own_cell {w : World} {base : Nat} {e : TypeId} {g c n : Nat} {xs : List Value} (h : w.ownsRow base e 1 (.slice (some ⟨g, 0, none⟩) n c) n xs) {j : Nat} {u : Value} (hj : xs[j]? = some u) : w.cell? ⟨g, j, none⟩ = some u := by
  have := h.cells (g := g) rfl j u hj
  rwa [Addr.add_lit, Nat.zero_add] at this

/-- 's[:k]' of a slice of integers. -/
theorem cut29 (g n c k : Nat) (hk : k ≤ n) (hc : n ≤ c) : (∀ W, (Instr.sliceAt 29 (.slice (some ⟨g, 0, none⟩) n c) none (some (.int .i64 (k : Int))) none).run Try.prog W = .ok (.slice (some ⟨g, 0, none⟩) k c) W) ∧
    (∀ W, (Instr.slice 29 (.slice (some ⟨g, 0, none⟩) n c) none (some (.int .i64 (k : Int))) none).run Try.prog W = .ok (.slice (some ⟨g, 0, none⟩) k c) W) := by
  have hu : Try.prog.underlying 29 = some (.slice (Try.prog.elem 29)) := by kernel_rfl
  have hs : ∀ W, (sizeOf (Try.prog.elem 29)).run Try.prog W = .ok 1 W := fun W => by
    have : Try.prog.elem 29 = 3 := by kernel_rfl
    rw [this]
    simp [go_sem]
  have h2 : ∀ W, (Instr.slice 29 (.slice (some ⟨g, 0, none⟩) n c) none (some (.int .i64 (k : Int))) none).run Try.prog W = .ok (.slice (some ⟨g, 0, none⟩) k c) W := fun W => by
    rw [run_slice_h W 29 (some ⟨g, 0, none⟩) n c hu .i64 k (by omega) (by omega), hs]
    simp [sliced, Addr.add]
  exact ⟨fun W => by rw [run_sliceAt_slice W 29 _ _ _ _ hu]; exact h2 W, h2⟩

/-- What a walk gave. -/
def WkPost (w : World) (n : Nat) (G : Nat → Nat → Bool) (s : Nat) (seen0 : Nat → Bool) (f : Nat) (e : Ending) (w' : World) : Prop :=
  ∃ l g c, e = .returned (.slice (some ⟨g, 0, none⟩) l.length c) ∧ Lft (Eg n G) n seen0 f l ∧ w'.ownsRow w.heap.size 3 1 (.slice (some ⟨g, 0, none⟩) l.length c) l.length (iv l) ∧ Br w' s (fun x => seen0 x || decide (x ∈ l)) n ∧ Off (· = s) w w'

theorem Inv.size {E : Nat → Nat → Prop} {m : Nat} {seen0 seen : Nat → Bool} {f : Nat} {st left : List Nat} (h : Inv E m seen0 f st left seen) : left.length + st.length ≤ m := by
  have := h.nd.length_le_of_subset (l₂ := List.range m) (fun x hx => List.mem_range.2 (h.out x (List.mem_append.1 hx)).2.1)
  simpa using this

set_option maxRecDepth 100000 in
set_option maxHeartbeats 4000000 in
theorem walk_any (b : Nat) (R : Nat → Nat) (n : Nat) (G : Nat → Nat → Bool) (hn : n ≤ 1000) (s : Nat) (seen0 : Nat → Bool) (f : Nat) (hf : f < n) (h0 : seen0 f = false) (hcl : ∀ x y, seen0 x = true → Eg n G x y → seen0 y = true) (w : World) (hG : Gr w b R n G) (hS : Br w s seen0 n) (hsR : ∀ i, i < n → R i ≠ s) :
    Calls Try.prog 26 #[.slice (some ⟨b, 0, none⟩) n n, .int .i64 (f : Int), .slice (some ⟨s, 0, none⟩) n n] w (WkPost w n G s seen0 f) := by
  obtain ⟨i0, hi, hz0, hz1, hz2⟩ := info_parts info3
  have hfi : (f : Int) < (n : Int) := by omega
  have hf0 : (0 : Int) ≤ (f : Int) := by omega
  have hsl := Tb.lt hS
  have c1 := hS.cell hf
  have f1 := Tb.free hS f
  have S2 : Br ((w.setCell ⟨s, f, none⟩ (.bool true)).alloc (.cells #[.int .i64 (f : Int)] 3)) s (upd seen0 f) n := Tb.old (hS.upd f) _
  have O2 : Off (· = s) w ((w.setCell ⟨s, f, none⟩ (.bool true)).alloc (.cells #[.int .i64 (f : Int)] 3)) := ((Off.refl (· = s) w).set (p := ⟨s, f, none⟩) (.inl rfl) _).alloc _
  have K2 : ((w.setCell ⟨s, f, none⟩ (.bool true)).alloc (.cells #[.int .i64 (f : Int)] 3)).ownsRow w.heap.size 3 1 (.slice (some ⟨w.heap.size, 0, none⟩) 1 1) 1 (iv [f]) :=
    ⟨rfl, .inr ⟨w.heap.size, 1, #[.int .i64 (f : Int)], rfl, Nat.le_refl _, by rw [show w.heap.size = (w.setCell ⟨s, f, none⟩ (.bool true)).heap.size by simp]; exact heap_alloc_new _ _, by simp, by unfold maxLen; omega, rfl, rfl⟩⟩
  have I2 := Lib.hid (Inv.start (E := Eg n G) (m := n) (seen0 := seen0) h0 hf)
  have HG : Hid (∀ W, Off (· = s) w W → Gr W b R n G) := fun W h => hG.same (h.block b hG.lt (fun e => (hG.hdr.apart hS (by decide)) e)) fun i hi => h.block (R i) (hG.rlt hi) (hsR i hi)
  have HC := Lib.hid hcl
  have HS := Lib.hid hS
  clear hcl hG hS
  go_enter Try.func26, Try.ntmps26
  go_wp2
  go_step3
  go_wp2
  go_step3
  go_wp2
  clear c1 f1
  generalize (w.setCell ⟨s, f, none⟩ (.bool true)).alloc (.cells #[.int .i64 (f : Int)] 3) = W2 at *
  go_loopg [7, 8] (2 * uns n (upd seen0 f) + 1) (fun g v7 v8 wr => ∃ (k : Nat) (st left : List Nat) (seen : Nat → Bool) (g8 c8 : Nat), v8 = .slice (some ⟨g8, 0, none⟩) k c8 ∧ Hid (st.length = k) ∧ Hid (2 * uns n seen + k ≤ g) ∧ Hid (Inv (Eg n G) n seen0 f st left seen) ∧ Hid (wr.ownsRow w.heap.size 3 1 (.slice (some ⟨g8, 0, none⟩) k c8) k (iv st)) ∧ Hid (wr.ownsRow w.heap.size 3 1 v7 left.length (iv left)) ∧ Hid (v7.ownBlock ≠ some g8) ∧ Hid (Br wr s seen n) ∧ Hid (Off (· = s) w wr))
  case atStart => exact ⟨1, [f], [], upd seen0 f, w.heap.size, 1, rfl, rfl, Nat.le_refl _, I2.out, K2, World.ownsRow_nil _ _ _ _, by show Value.ownBlock _ ≠ _; simp [Value.ownBlock], S2, O2⟩
  case round =>
    obtain ⟨k, st, left, seen, g8, c8, rfl, hk, hm, hI, h8, h7, hne, hS, hO⟩ := hrel
    clear K2 S2 O2 I2
    rcases List.eq_nil_or_concat st with rfl | ⟨st, t, rfl⟩
    · obtain rfl : k = 0 := hk.out.symm
      have hF := hI.out.fin HC.out
      have hfl : f ∈ left := by simpa using hI.out.has
      have hlp : 0 < left.length := List.length_pos_of_mem hfl
      obtain ⟨g7, c7, rfl, hg7, hg7l⟩ := h7.out.form hlp
      have hF := Lib.hid hF
      go_wp2
      go_ret
      exact ⟨left, g7, c7, rfl, hF.out.1, h7.out, hS.out.congr fun i _ => hF.out.2 i, hO.out⟩
    · rw [List.concat_eq_append] at *
      obtain ⟨q, rfl⟩ : ∃ q, k = q + 1 := ⟨st.length, by rw [← hk.out]; simp⟩
      have hq : Hid (st.length = q) := by have := hk.out; simp at this; exact this
      have hsize := hI.out.size
      rw [List.length_append, List.length_singleton, hq.out] at hsize
      have htn : t < n := (hI.out.out t (.inr (by simp))).2.1
      have c8t : wr.cell? ⟨g8, q, none⟩ = some (.int .i64 (t : Int)) := own_cell h8.out (by rw [iv_snoc, ← hq.out, ← iv_len]; simp)
      have hg := HG.out wr hO.out
      have cht := hg.hcell htn
      have hti : (t : Int) < (n : Int) := by omega
      have ht0 : (0 : Int) ≤ (t : Int) := by omega
      have hw1 : wrap64 (q : Int) = (q : Int) := by unfold wrap64; omega
      have hqi : (q : Int) < (q : Int) + 1 := by omega
      have hg8 := (h8.out.lt g8 rfl)
      go_wp2
      go_loopg [8, 31] n (fun g sv tv W => ∃ j : Nat, j + g = n ∧ sv = .slice (some ⟨g8, 0, none⟩) (q + 1) c8 ∧ tv = .int .i64 (j : Int) ∧ Hid (∀ y, y < j → Eg n G t y → seen y = true) ∧ W = wr)
      case atStart => exact ⟨0, by omega, rfl, rfl, fun y h => by omega, rfl⟩
      case round =>
        obtain ⟨j, hj, rfl, rfl, hJ, rfl⟩ := hrel
        by_cases hlt : j < n
        · have hji : (j : Int) < (n : Int) := by omega
          have hj0 : (0 : Int) ≤ (j : Int) := by omega
          have cg := hg.cell htn hlt
          have cs := hS.out.cell hlt
          have fs := Tb.free hS.out j
          rcases hGv : G t j with _ | _
          · rw [hGv] at cg
            have J2 : Hid (∀ y, y < j + 1 → Eg n G t y → seen y = true) := fun y hy e => by
              rcases Nat.lt_or_ge y j with h | h
              · exact hJ.out y h e
              · obtain rfl : y = j := by omega
                rw [e.2.2] at hGv; cases hGv
            clear hGv
            go_wp2
            go_roundg (n - (j + 1))
            case measure => omega
            case rel => exact ⟨j + 1, by omega, rfl, by go_num, J2, rfl⟩
          · rw [hGv] at cg
            rcases hsv : seen j with _ | _
            · rw [hsv] at cs
              have hE : Eg n G t j := ⟨htn, hlt, hGv⟩
              have I3 := Lib.hid (hI.out.push (eg_in n G) hE hsv)
              have U3 := Lib.hid (uns_upd hlt hsv)
              clear hGv hsv
              have S3 : Br ((wr.setCell ⟨s, j, none⟩ (.bool true)).alloc (.cells #[.int .i64 (j : Int)] 3)) s (upd seen j) n := Tb.old (hS.out.upd j) _
              have O3 : Off (· = s) w ((wr.setCell ⟨s, j, none⟩ (.bool true)).alloc (.cells #[.int .i64 (j : Int)] 3)) := (hO.out.set (p := ⟨s, j, none⟩) (.inl rfl) _).alloc _
              have keep : ∀ g, w.heap.size ≤ g → g < wr.heap.size → ((wr.setCell ⟨s, j, none⟩ (.bool true)).alloc (.cells #[.int .i64 (j : Int)] 3)).heap[g]? = wr.heap[g]? := fun g h1 h2 => (heap_alloc_old _ _ (by simpa using h2)).trans (Below.heap_setCell _ _ _ _ (by show g ≠ s; omega))
              have H8 := own_same h8.out fun g hg => keep g (h8.out.lt g hg).1 (h8.out.lt g hg).2
              have H7 := own_same h7.out fun g hg => keep g (h7.out.lt g hg).1 (h7.out.lt g hg).2
              have Z3 : ((wr.setCell ⟨s, j, none⟩ (.bool true)).alloc (.cells #[.int .i64 (j : Int)] 3)).heap.size = wr.heap.size + 1 := by simp
              have N3 : ((wr.setCell ⟨s, j, none⟩ (.bool true)).alloc (.cells #[.int .i64 (j : Int)] 3)).heap[wr.heap.size]? = some (.cells #[.int .i64 (j : Int)] 3 (0, 0)) := by
                rw [show wr.heap.size = (wr.setCell ⟨s, j, none⟩ (.bool true)).heap.size by simp]; exact heap_alloc_new _ _
              have hwl := hO.out.size
              have L7 := h7.out.lt
              have SS := Lib.hid S3
              have HH7 := Lib.hid H7
              have HH8 := Lib.hid H8
              have HO3 := Lib.hid O3
              have HN3 := Lib.hid N3
              have HZ3 := Lib.hid Z3
              have HL7 := Lib.hid L7
              clear S3 H7 H8 O3 keep N3 Z3 L7
              go_wp2_with (at_builtin; refine wpList_append_lies _ rfl _ _ 29 rfl w.heap.size 3 i0 (.int .i64 0) 1 8 Try.underlying29 hi hz0 hz1 hz2 rfl (by decide) (.slice (some ⟨g8, 0, none⟩) (q + 1) c8) (q + 1) (iv (st ++ [t])) rfl HH8.out ⟨wr.heap.size, 0, none⟩ 1 1 [.int .i64 (j : Int)] rfl rfl (World.news_of_block HN3.out) (by intro u hu; simp at hu; subst hu; rfl) (by decide) (by unfold maxLen; omega) (by omega) (by rw [HZ3.out]; omega) (wr.heap.size + 1) HZ3.out ?_; intro g' c' w5 hown hgrow hat hlt5)
              have hg'1 : g' ≠ s := by
                rcases hat with e | e
                · simp [Value.ownBlock] at e; omega
                · omega
              have S5 : Br w5 s (upd seen j) n := Tb.same SS.out (hgrow.block s (by rw [HZ3.out]; omega) (by simp [Value.ownBlock]; omega))
              have H5 := own_same HH7.out fun g hg => hgrow.block g (HH7.out.lt g hg).2 (by
                have := hne.out
                rw [hg] at this
                simpa [Value.ownBlock] using this)
              have O5 := HO3.out.grown hgrow (fun r hr => .inr (by simp [Value.ownBlock] at hr; omega))
              have hne5 : Hid (u7.ownBlock ≠ some g') := fun e => by
                rcases hat with e2 | e2
                · exact hne.out (e.trans e2.symm)
                · have := (HL7.out g' e).2; omega
              have hown5 : Hid (w5.ownsRow w.heap.size 3 1 (.slice (some ⟨g', 0, none⟩) (q + 1 + 1) c') (q + 1 + 1) (iv (st ++ [t] ++ [j]))) := by
                show World.ownsRow _ _ _ _ _ _ _
                rw [iv_snoc]; exact hown
              go_wp2
              go_roundg (2 * uns n (upd seen j) + (q + 1 + 1))
              case measure => have := hm.out; have := U3.out; omega
              case rel => exact ⟨q + 1 + 1, st ++ [t] ++ [j], left, upd seen j, g', c', rfl, by show _ = _; simp [hq.out], Nat.le_refl _, I3.out, hown5.out, H5, hne5.out, S5, O5⟩
            · rw [hsv] at cs
              have J2 : Hid (∀ y, y < j + 1 → Eg n G t y → seen y = true) := fun y hy e => by
                rcases Nat.lt_or_ge y j with h | h
                · exact hJ.out y h e
                · obtain rfl : y = j := by omega
                  exact hsv
              clear hGv hsv
              go_wp2
              go_roundg (n - (j + 1))
              case measure => omega
              case rel => exact ⟨j + 1, by omega, rfl, by go_num, J2, rfl⟩
        · obtain rfl : j = n := by omega
          have I3 := Lib.hid (hI.out.pop HC.out fun y e => hJ.out y e.2.1 e)
          have C8 : Hid (wr.ownsRow w.heap.size 3 1 (.slice (some ⟨g8, 0, none⟩) q c8) q (iv st)) := own_cut (x := .int .i64 (t : Int)) (by rw [← iv_snoc]; exact h8.out)
          obtain ⟨r1, r2⟩ := cut29 g8 (q + 1) c8 q (by omega) (by
            rcases h8.out.2 with ⟨h, _⟩ | ⟨_, _, _, hv, _, _, h1, _⟩
            · cases h
            · simp only [Value.slice.injEq] at hv; omega)
          have Z3 : (wr.alloc (.cells #[.int .i64 (t : Int)] 3)).heap.size = wr.heap.size + 1 := by simp
          have HZ3 := Lib.hid Z3
          have HN3 := Lib.hid (heap_alloc_new wr (.cells #[.int .i64 (t : Int)] 3))
          have H7 := Lib.hid (own_same (w' := wr.alloc (.cells #[.int .i64 (t : Int)] 3)) h7.out fun g hg => heap_alloc_old _ _ (h7.out.lt g hg).2)
          have H8 := Lib.hid (own_same (w' := wr.alloc (.cells #[.int .i64 (t : Int)] 3)) C8.out fun g hg => heap_alloc_old _ _ (C8.out.lt g hg).2)
          have S3 : Hid (Br (wr.alloc (.cells #[.int .i64 (t : Int)] 3)) s seen j) := Tb.old hS.out _
          have O3 := Lib.hid (hO.out.alloc (.cells #[.int .i64 (t : Int)] 3))
          have hwl := hO.out.size
          have HL7 := Lib.hid h7.out.lt
          clear Z3
          go_wp2_with (at_builtin; refine wpList_append_lies _ rfl _ _ 29 rfl w.heap.size 3 i0 (.int .i64 0) 1 8 Try.underlying29 hi hz0 hz1 hz2 rfl (by decide) u7 left.length (iv left) rfl H7.out ⟨wr.heap.size, 0, none⟩ 1 1 [.int .i64 (t : Int)] rfl rfl (World.news_of_block HN3.out) (by intro u hu; simp at hu; subst hu; rfl) (by decide) (by unfold maxLen; omega) (by omega) (by rw [HZ3.out]; omega) (wr.heap.size + 1) HZ3.out ?_; intro g' c' w5 hown hgrow hat hlt5)
          have hg'1 : g' ≠ s := by
            rcases hat with e | e
            · have := (HL7.out g' e).1; omega
            · omega
          have hr7 : ∀ r, u7.ownBlock = some r → w.heap.size ≤ r := fun r e => (HL7.out r e).1
          have S5 : Br w5 s seen j := Tb.same S3.out (hgrow.block s (by rw [HZ3.out]; omega) (fun e => by have := hr7 s e.symm; omega))
          have H5 := own_same H8.out fun g hg => hgrow.block g (by rw [HZ3.out]; simp [Value.ownBlock] at hg; omega) (fun e => by
            simp [Value.ownBlock] at hg
            exact hne.out (by rw [← e, hg]))
          have O5 := O3.out.grown hgrow (fun r hr => .inr (hr7 r hr))
          have hne5 : Hid (Value.ownBlock (.slice (some ⟨g', 0, none⟩) (left.length + 1) c') ≠ some g8) := fun e => by
            simp [Value.ownBlock] at e
            rcases hat with e2 | e2
            · exact hne.out (e2.trans (by rw [e]))
            · omega
          have hown5 : Hid (w5.ownsRow w.heap.size 3 1 (.slice (some ⟨g', 0, none⟩) (left.length + 1) c') (left ++ [t]).length (iv (left ++ [t]))) := by
            show World.ownsRow _ _ _ _ _ _ _
            rw [iv_snoc, List.length_append]; exact hown
          go_wp2
          go_roundg (2 * uns j seen + q)
          case measure => have := hm.out; omega
          case rel => exact ⟨q, st, left ++ [t], seen, g8, c8, rfl, hq.out, Nat.le_refl _, I3.out, H5, hown5.out, hne5.out, S5, O5⟩

end Go.Proofs.Ytnfjfpiijikniaa.Gp
