/-
  The walk of graph.components: the components, by their first things. Conditions: at most 1000 things.
-/
import Derived.Test.YtnfjfpiijikniaaCk
import Derived.Maps.OwnIn
import Derived.Lib.SliceRun
import Derived.RangeFuncBox
namespace Go.Proofs.Ytnfjfpiijikniaa.Gp
open Go.RowKit Go.Shelf
set_option linter.unusedVariables false
attribute [local go_sem] Oper.semAt_some

theorem clr_row {s n : Nat} : ∀ (k o : Nat) {w : World} {f : Nat → Bool}, Br w s f n → Br (w.setCells s o (List.replicate k (.bool false))) s (fun j => if o ≤ j ∧ j < o + k then false else f j) n := by
  intro k
  induction k with
  | zero =>
    intro o w f h
    exact Br.congr (f := f) h fun j _ => by rw [if_neg (by omega)]
  | succ k ih =>
    intro o w f h
    rw [List.replicate_succ, World.setCells]
    exact (ih (o + 1) (h.set o false)).congr fun j _ => by
      by_cases h1 : o + 1 ≤ j ∧ j < o + 1 + k
      · rw [if_pos h1, if_pos (by omega)]
      · rw [if_neg h1]
        by_cases h2 : j = o
        · rw [if_pos h2, if_pos (by omega)]
        · rw [if_neg h2, if_neg (by omega)]
theorem clr_off {s : Nat} {O : Nat → Prop} (hs : O s) {a : World} : ∀ (k o : Nat) {w : World}, Off O a w → Off O a (w.setCells s o (List.replicate k (.bool false))) := by
  intro k
  induction k with
  | zero => intro o w h; exact h
  | succ k ih =>
    intro o w h
    rw [List.replicate_succ, World.setCells]
    exact ih (o + 1) (h.set (p := ⟨s, o, none⟩) (.inl hs) _)
theorem clr_run {s n : Nat} {f : Nat → Bool} {W : World} (h : Br W s f n) (ty : TypeId) : (Builtin.clear_ #[38] ty #[.slice (some ⟨s, 0, none⟩) n n]).run Try.prog W = .ok (.tuple #[]) (W.setCells s 0 (List.replicate n (.bool false))) := by
  have hu : Try.prog.underlying 38 = some (.slice 4) := by kernel_rfl
  have hz : ∀ w, (zeroValue 4).run Try.prog w = .ok (.bool false) w := fun w => by
    have := Try.zeroValue4
    exact this w
  rcases Nat.eq_zero_or_pos n with rfl | hn
  · simp [Builtin.clear_, run_underlying hu, World.setCells]
  · exact Lib.run_clear_slice W 38 4 ty (.bool false) hu hz rfl rfl s 0 n n hn (fun j hj => by rw [Nat.zero_add, h.cell hj]; rfl) (fun j _ => by rw [Nat.zero_add]; exact Tb.free h j)

set_option maxRecDepth 100000 in
set_option maxHeartbeats 4000000 in
theorem components_any (b : Nat) (R : Nat → Nat) (n : Nat) (G : Nat → Nat → Bool) (hn : n ≤ 1000) (w : World) (hG : Gr w b R n G) :
    Calls Try.prog 22 #[.slice (some ⟨b, 0, none⟩) n n] w (fun e w' => ∃ qs v, e = .returned v ∧ Rem (Eg n G) n (fun _ => False) qs ∧ Pr w' w.heap.size v qs ∧ Below w.heap.size w w') := by
  obtain ⟨j0, hj, hy0, hy1, hy2⟩ := info_parts info4
  obtain ⟨i0, hi, hz0, hz1, hz2⟩ := info_parts info3
  obtain ⟨i9, hi9, hz90, hz91, hz92⟩ := info_parts info29
  obtain ⟨W1, hmk, hown, hg⟩ := run_make_full (P := Try.prog) (w := w) w.heap.size 38 4 j0 (.bool false) 1 (by kernel_rfl) hj hy0 hy1 .i64 .i64 n (by rw [hy2]; omega) (by unfold maxLen; omega) (Nat.le_refl _)
  refine (callsIn_wide (n := 8)).1 ?_
  refine callsIn_of_wp_marks Try.func22 rfl trivial ?_ rfl
  simp only [Try.ntmps22, List.size_toArray, List.length_cons, List.length_nil, Nat.reduceAdd, Nat.reduceSub, Array.replicate_succ, Array.replicate_zero, List.push_toArray, List.append_toArray, List.nil_append, List.cons_append]
  gi_wp2
  have hsl := (hown.lt w.heap.size rfl).2
  have S2 : Br (W1.alloc (.cells #[.slice (some ⟨w.heap.size, 0, none⟩) n n] 38)) w.heap.size (fun _ => false) n := Tb.old (tb_made hown rfl) _
  have X2 := Boxed.new W1 38 (.slice (some ⟨w.heap.size, 0, none⟩) n n)
  have B2 : Below w.heap.size w (W1.alloc (.cells #[.slice (some ⟨w.heap.size, 0, none⟩) n n] 38)) := ((Below.refl _ w).grown hg (Nat.le_refl _) (by simp)).alloc hg.size _
  clear hown hg hmk
  have HG := Lib.hid hG
  clear hG
  revert hsl S2 X2 B2
  generalize W1.alloc (.cells #[.slice (some ⟨w.heap.size, 0, none⟩) n n] 38) = W2
  generalize hsd : W1.heap.size = sb
  clear hsd
  intro hsl S2 X2 B2
  gi_loopw [3, 16] (fun v t wr => ∃ (k : Nat) (L : List Nat) (seen : Nat → Bool), k ≤ n ∧ t = .int .i64 (k : Int) ∧ Hid (Fst (Eg n G) n k L seen) ∧ Hid (wr.ownsRow w.heap.size 3 1 v L.length (iv L)) ∧ Hid (Br wr w.heap.size seen n) ∧ Hid (Boxed wr sb 38 (.slice (some ⟨w.heap.size, 0, none⟩) n n)) ∧ Hid (Below w.heap.size w wr)) (fun _ t _ => n - (intOf t).toNat)
  case atStart => exact ⟨0, [], fun _ => false, by omega, rfl, Fst.start, World.ownsRow_nil _ _ _ _, S2, X2, B2⟩
  case round =>
    obtain ⟨k, L, seen, hk, rfl, hF, hO, hS, hX, hB⟩ := hrel
    clear S2 X2 B2
    have hLl := hF.out.len
    have cX := hX.out.cell
    by_cases hlt : k < n
    · have hki : (k : Int) < (n : Int) := by omega
      have hk0 : (0 : Int) ≤ (k : Int) := by omega
      have cS := hS.out.cell hlt
      rcases hsk : seen k with _ | _
      · rw [hsk] at cS
        have HW := Lib.hid (walk_any b R n G hn w.heap.size seen k hlt hsk hF.out.shut0 wr (HG.out.up hB.out) hS.out (fun i hi => Nat.ne_of_lt (HG.out.rlt hi)))
        clear hsk
        gi_wp2_with fail
        refine ⟨trivial, ?_⟩
        refine (callsIn_wide.2 HW.out).mono ?_
        rintro e w3 ⟨l, g, c, rfl, hL, hown3, hS3, hO3⟩
        have HL := Lib.hid hL
        have hll := hL.len
        have sS : wr.heap[w.heap.size]? = some (.cells (tab (fun j => .bool (seen j)) n) 4 (0, 0)) := hS.out
        have O3 := Lib.hid (own_same (w' := w3) hO.out fun r hr => hO3.block r (hO.out.lt r hr).2 (fun e => own_tag hO.out sS (by decide) (by rw [hr, e])))
        have X3 : Hid (Boxed w3 sb 38 (.slice (some ⟨w.heap.size, 0, none⟩) n n)) := (hO3.block sb hX.out.lt (by omega)).trans hX.out
        have B3 := Lib.hid (hB.out.trans (hO3.below (by rintro r rfl; exact Nat.le_refl _) hB.out.size))
        have HN := Lib.hid (fun (j : Nat) (u : Value) (h : (iv l)[j]? = some u) => (by
          have := own_cell hown3 h
          rw [Addr.add_lit, Nat.zero_add]; exact this : w3.cell? ((⟨g, 0, none⟩ : Addr).add j) = some u))
        have HS3 := Lib.hid hS3
        have hz3 := B3.out.size
        clear hL hown3 hS3 hO3 sS HW
        gi_wp2_with (gi_at_builtin; refine wpListIn_append_own_at _ rfl _ _ 29 rfl w.heap.size 3 i0 (.int .i64 0) 1 8 Try.underlying29 hi hz0 hz1 hz2 rfl (by decide) u3 L.length (iv L) rfl O3.out ⟨g, 0, none⟩ l.length c (iv l) rfl (by rw [iv_len]; omega) HN.out (iv_one l) (by unfold maxLen; omega) (by omega) hz3 ?_; intro v' w4 hown4 hgrow4 hnil4 hat4)
        have sS3 : w3.heap[w.heap.size]? = some (.cells (tab (fun j => .bool (seen j || decide (j ∈ l))) n) 4 (0, 0)) := HS3.out
        have S4 : Br w4 w.heap.size (fun x => seen x || decide (x ∈ l)) n := Tb.same HS3.out (hgrow4.block _ (Tb.lt HS3.out) (own_tag O3.out sS3 (by decide)))
        have X4 : Boxed w4 sb 38 (.slice (some ⟨w.heap.size, 0, none⟩) n n) := X3.out.kept hgrow4 (own_tag O3.out X3.out (by decide))
        have B4 := B3.out.grown hgrow4 hz3 (fun r hr => (O3.out.lt r hr).1)
        have O4 : w4.ownsRow w.heap.size 3 1 v' (L ++ l).length (iv (L ++ l)) := by
          rw [List.length_append, show iv (L ++ l) = iv L ++ iv l by simp [iv]]; exact hown4
        go_roundw
        case rel => exact ⟨k + 1, L ++ l, _, by omega, by go_num, hF.out.more HL.out, O4, S4, X4, B4⟩
        case measure => simp [intOf]; omega
      · rw [hsk] at cS
        have F2 := Lib.hid (hF.out.pass hsk)
        clear hsk
        gi_wp2
        go_roundw
        case rel => exact ⟨k + 1, L, seen, by omega, by go_num, F2.out, hO.out, hS.out, hX.out, hB.out⟩
        case measure => simp [intOf]; omega
    · obtain rfl : k = n := by omega
      have hcl := fun ty => clr_run hS.out ty
      have hsz := hB.out.size
      have S3 : Br (wr.setCells w.heap.size 0 (List.replicate k (.bool false))) w.heap.size (fun _ => false) k := (clr_row k 0 hS.out).congr fun j hj => by rw [if_pos (by omega)]
      have O3 : Off (· = w.heap.size) wr (wr.setCells w.heap.size 0 (List.replicate k (.bool false))) := clr_off (O := (· = w.heap.size)) rfl k 0 (Off.refl _ _)
      have X3 : Boxed (wr.setCells w.heap.size 0 (List.replicate k (.bool false))) sb 38 (.slice (some ⟨w.heap.size, 0, none⟩) k k) := (O3.block sb hX.out.lt (by omega)).trans hX.out
      have B3 := Lib.hid (hB.out.trans (O3.below (by rintro r rfl; exact Nat.le_refl _) hsz))
      have sS : wr.heap[w.heap.size]? = some (.cells (tab (fun j => .bool (seen j)) k) 4 (0, 0)) := hS.out
      have L3 := Lib.hid (own_same (w' := wr.setCells w.heap.size 0 (List.replicate k (.bool false))) hO.out fun r hr => O3.block r (hO.out.lt r hr).2 (fun e => own_tag hO.out sS (by decide) (by rw [hr, e])))
      have HS3 := Lib.hid S3
      have HX3 := Lib.hid X3
      clear S3 O3 X3 hS hO hX hB sS
      revert HS3 HX3 L3 B3 hcl
      generalize hVd : wr.setCells w.heap.size 0 (List.replicate k (.bool false)) = V
      intro hcl B3 L3 HS3 HX3
      have HT := Lib.hid (turned_any b R k G hn V (HG.out.up B3.out))
      have cX3 := HX3.out.cell
      obtain ⟨A3, c3, hu3⟩ : ∃ A c, u3 = .slice A L.length c := by
        rcases L3.out.2 with ⟨h1, h2⟩ | ⟨g, cap, cur, h1, _⟩
        · exact ⟨none, 0, by rw [h1, h2]⟩
        · exact ⟨_, cap, h1⟩
      subst hu3
      gi_wp2_with fail
      refine ⟨trivial, ?_⟩
      refine (callsIn_wide.2 HT.out).mono ?_
      clear hVd hcl cX cX3
      rintro e w5 ⟨bT, RT, rfl, hT, hbT, hRT, B5⟩
      have hX5 : Boxed w5 sb 38 (.slice (some ⟨w.heap.size, 0, none⟩) k k) := (B5.block sb HX3.out.lt).trans HX3.out
      have cX5 := hX5.cell
      gi_wp2_with fail
      refine ⟨trivial, ?_⟩
      refine (callsIn_wide.2 (back_any _ ⟨A3, L.length, c3, rfl⟩ _)).mono ?_
      rintro e w6 ⟨rfl, rfl⟩
      gi_wp2
      have Z5 := Nat.le_trans B3.out.size B5.size
      have BW := (B3.out.trans (B5.mono B3.out.size))
      have B6 : Below w5.heap.size w5 (((w5.alloc (.cells #[.slice (some ⟨bT, 0, none⟩) k k] 40)).alloc (.cells #[.slice none 0 0] 25)).alloc (.cells #[.slice A3 L.length c3] 29)) := (((Below.refl _ w5).alloc (Nat.le_refl _) _).alloc (by simp) _).alloc (by simp; omega) _
      have x6t := ((Boxed.new w5 40 (.slice (some ⟨bT, 0, none⟩) k k)).alloc (.cells #[.slice none 0 0] 25)).alloc (.cells #[.slice A3 L.length c3] 29)
      have x6p := (Boxed.new (w5.alloc (.cells #[.slice (some ⟨bT, 0, none⟩) k k] 40)) 25 (.slice none 0 0)).alloc (.cells #[.slice A3 L.length c3] 29)
      have x6b := Boxed.new ((w5.alloc (.cells #[.slice (some ⟨bT, 0, none⟩) k k] 40)).alloc (.cells #[.slice none 0 0] 25)) 29 (.slice A3 L.length c3)
      have sz6 : (((w5.alloc (.cells #[.slice (some ⟨bT, 0, none⟩) k k] 40)).alloc (.cells #[.slice none 0 0] 25)).alloc (.cells #[.slice A3 L.length c3] 29)).heap.size = w5.heap.size + 3 := by simp
      simp only [World.size_alloc] at x6p x6b
      obtain ⟨W0, hW0⟩ : ∃ W0, ((w5.alloc (.cells #[.slice (some ⟨bT, 0, none⟩) k k] 40)).alloc (.cells #[.slice none 0 0] 25)).alloc (.cells #[.slice A3 L.length c3] 29) = W0 := ⟨_, rfl⟩
      rw [hW0] at x6t x6p x6b B6 sz6 ⊢
      clear hW0
      have S6 : Br W0 w.heap.size (fun _ => false) k := Tb.on (Tb.on HS3.out B5 (Tb.lt HS3.out)) B6 (by have := Tb.lt HS3.out; have := B5.size; omega)
      have X6s : Boxed W0 sb 38 (.slice (some ⟨w.heap.size, 0, none⟩) k k) := (B6.block sb hX5.lt).trans hX5
      have T6 := hT.up B6
      have BW6 := BW.trans (B6.mono Z5)
      have hsl5 := Tb.lt HS3.out
      have hV5 := B5.size
      have hsb5 := HX3.out.lt
      have hbTl := hT.lt
      obtain ⟨LL, hLL⟩ : ∃ LL : List (Th k), LL.map (·.1) = L := ⟨L.pmap (fun x h => ⟨x, h⟩) hF.out.inn, by
        apply List.ext_getElem
        · simp
        · intro i h1 h2
          simp⟩
      have hLLl : LL.length = L.length := by rw [← hLL]; simp
      obtain ⟨gl, hgl, hgs, hgA, hgc⟩ : ∃ gl, gl < w5.heap.size ∧ gl ≠ w.heap.size ∧ (LL ≠ [] → A3 = some ⟨gl, 0, none⟩) ∧ (∀ j x, LL[j]? = some x → W0.cell? ⟨gl, j, none⟩ = some (.int .i64 (x.1 : Int))) := by
        rcases L3.out.2 with ⟨h1, h2⟩ | ⟨g, cap, cur, h1, hb, hh, _⟩
        · have : LL = [] := List.length_eq_zero_iff.1 (by omega)
          subst this
          exact ⟨sb, by omega, by omega, fun h => absurd rfl h, fun j x h => by simp at h⟩
        · have hgV : g < V.heap.size := lt_of_block hh
          simp only [Value.slice.injEq] at h1
          obtain ⟨rfl, _, rfl⟩ := h1
          refine ⟨g, by omega, fun e => ?_, fun _ => rfl, fun j x h => ?_⟩
          · have h3 : V.heap[w.heap.size]? = _ := HS3.out
            rw [e, h3] at hh
            simp only [Option.some.injEq, Obj.cells.injEq] at hh
            exact absurd hh.2.1 (by decide)
          have e1 : (iv L)[j]? = some (.int .i64 (x.1 : Int)) := by
            unfold iv
            rw [← hLL, List.getElem?_map, List.getElem?_map, h]
            rfl
          have := own_cell L3.out e1
          exact (World.cell?_of_block (a := ⟨g, j, none⟩) (B6.block g (by omega))).trans ((World.cell?_of_block (a := ⟨g, j, none⟩) (B5.block g hgV)).trans this)
      have HLL := Lib.hid hLL
      clear hLL
      rw [← hLLl] at x6b
      refine wpIn_rangeFunc_ownG rfl (by omega) (gf := 42) (lb := #[.pointer (some ⟨w5.heap.size + 1 + 1, 0, none⟩)]) rfl trivial (enters_of Try.func42 (by kernel_rfl) rfl)
        (stops (8 - 1) (by omega) (w5.heap.size + 1 + 1) gl k A3 c3 LL (by omega) W0 (by omega) (by omega) x6b hgA hgc) kq_t (kq_b (by omega) (by omega)) (Below.refl _ _) (fun _ => rfl)
        (fun pre W => ∃ ps seen v, Ck w W0.heap.size k w.heap.size sb w5.heap.size (w5.heap.size + 1) bT RT G LL pre W ps seen v)
        (fun _ _ _ => False)
        (ck_own (by omega))
        (fun _ _ _ _ _ hs _ _ => hs)
        ⟨[], fun _ => false, .slice none 0 0, ⟨S6, fun x y h => (by cases h), X6s, x6t, x6p, ⟨[], World.ownsRow_nil _ _ _ _, fun i p h => by simp at h⟩, T6, BW6, Nat.le_refl _, fun _ => Snd.start, Nat.le_refl _, fun p h => by simp at h, fun _ => rfl⟩⟩
        (fun x => { tmps := #[.slice (some ⟨b, 0, none⟩) k k, undef, .slice none 0 0, .slice A3 L.length c3, .pointer (some ⟨sb, 0, none⟩), u5, .pointer (some ⟨w5.heap.size, 0, none⟩), .pointer (some ⟨w5.heap.size + 1, 0, none⟩), undef, .int .i64 (x.1.1 : Int), undef, .slice (some ⟨b, 0, none⟩) k k, .int .i64 (k : Int), .slice (some ⟨w.heap.size, 0, none⟩) k k, .slice (some ⟨b, 0, none⟩) k k, .int .i64 (k : Int), .int .i64 (k : Int), .bool false, u18, u19, u20, u21, u22, u23, u24, u25, u26, u27, u28, u29, u30, .slice (some ⟨w.heap.size, 0, none⟩) k k, .slice (some ⟨b, 0, none⟩) k k, .slice (some ⟨bT, 0, none⟩) k k, .slice A3 L.length c3, .func (.func 42) #[] #[.pointer (some ⟨w5.heap.size + 1 + 1, 0, none⟩)], .int .i64 (x.2 : Int), .int .i64 (x.1.1 : Int), undef, undef, undef, undef, undef, undef, undef, undef, undef, undef, undef, undef, undef, undef, undef, undef, undef, undef], defers := [] }) ?assign ?body ?done ?stop
      case assign =>
        intro l x W K hK
        gi_wp2
        simpa [ec] using hK
      case body =>
        rintro l pre ⟨⟨t, ht⟩, ix⟩ W ⟨ps, seen, v, hC⟩ hlen
        have cs := hC.row.cell ht
        have cb := hC.bs.cell
        have ct := hC.bt.cell
        have cp := hC.bp.cell
        have hti : (t : Int) < (k : Int) := by omega
        have ht0 : (0 : Int) ≤ (t : Int) := by omega
        have hWs := hC.size
        rcases hst : seen t with _ | _
        · rw [hst] at cs
          have HST := Lib.hid hst
          have HW := Lib.hid (walk_any bT RT k (fun i j => G j i) hn w.heap.size seen t ht hst hC.shut W hC.grf hC.row (fun i hi => by have := hRT i hi; omega))
          clear hst
          gi_wp2_with fail
          refine ⟨trivial, ?_⟩
          refine (CallsIn.inRound l (callsIn_wide.2 HW.out)).mono ?_
          rintro e w7 ⟨q, g, c, rfl, hL, hown7, hS7, hO7⟩
          clear HW cs cb ct cp
          have hq : ∀ x, x ∈ q → x < k := fun x hx => (hL.inn x hx).2.1
          have hql := hL.len
          have HSo := Lib.hid (sort_any W.heap.size g c q (srt k q) (by omega) hL.nd (srt_rises k q) (mem_srt hq) w7 hown7)
          have hg7 := (hown7.lt g rfl)
          have HL := Lib.hid hL
          clear hL
          gi_wp2_with fail
          refine ⟨trivial, ?_⟩
          refine (CallsIn.inRound l (callsIn_wide.2 HSo.out)).mono ?_
          rintro e w8 ⟨rfl, hown8, hO8⟩
          have hlq : Hid (q.length = (srt k q).length) := len_same HL.out.nd (rises_nodup (srt_rises k q)) (mem_srt hq)
          have hz7 := hO7.size
          have hz8 := hO8.size
          have hsW := Tb.lt hC.row
          have hpW := hC.bp.lt
          have K8 : ∀ r, r < W.heap.size → r ≠ w.heap.size → w8.heap[r]? = W.heap[r]? := fun r hr hne => (hO8.block r (by omega) (by omega)).trans (hO7.block r hr hne)
          obtain ⟨hs, ho, hir⟩ := hC.prt
          have sW : W.heap[w.heap.size]? = some (.cells (tab (fun j => .bool (seen j)) k) 4 (0, 0)) := hC.row
          have vlt : ∀ r, v.ownBlock = some r → W0.heap.size ≤ r ∧ r < W.heap.size := fun r hr => ho.lt r hr
          have ho8 := own_same (w' := w8) ho fun r hr => K8 r (vlt r hr).2 (by have := (vlt r hr).1; omega)
          have hX8 : Boxed w8 (w5.heap.size + 1) 25 v := (K8 _ hpW (by omega)).trans hC.bp
          have cp8 := hX8.cell
          have HO9 := Lib.hid (own_same (w' := w8.alloc (.cells #[.slice (some ⟨g, 0, none⟩) q.length c] 29)) ho8 fun r hr => heap_alloc_old _ _ (by have := (vlt r hr).2; omega))
          have HN9 := Lib.hid (heap_alloc_new w8 (.cells #[.slice (some ⟨g, 0, none⟩) q.length c] 29))
          have hXa : Boxed (w8.alloc (.cells #[.slice (some ⟨g, 0, none⟩) q.length c] 29)) (w5.heap.size + 1) 25 v := hX8.alloc _
          have hpl := hC.few
          have HXa := Lib.hid hXa
          have HX8 := Lib.hid hX8
          have HO8 := Lib.hid ho8
          have HK8 := Lib.hid K8
          have Hvlt := Lib.hid vlt
          have HI := Lib.hid hir
          have Hown8 := Lib.hid hown8
          have HS7 := Lib.hid hS7
          have H7 := Lib.hid hO7
          have H8 := Lib.hid hO8
          have HsW := Lib.hid sW
          have Ho := Lib.hid ho
          clear hX8 ho8 K8 vlt hir hown8 hS7 hO7 hO8 sW ho hown7 HSo hXa
          gi_wp2_with (gi_at_builtin; refine wpListIn_append_own_at _ rfl _ _ 25 rfl W0.heap.size 29 i9 (.slice none 0 0) 1 24 Try.underlying25 hi9 hz90 hz91 hz92 rfl (by decide) v ps.length hs rfl HO9.out ⟨w8.heap.size, 0, none⟩ 1 1 [.slice (some ⟨g, 0, none⟩) q.length c] rfl rfl (World.news_of_block HN9.out) (by intro u hu; simp at hu; subst hu; rfl) (by unfold maxLen; omega) (by omega) (by simp; omega) ?_; intro v' w9 hown9 hgrow9 hnil9 hat9; obtain ⟨g9, c9, rfl⟩ := ownsRow_succ hown9; have hX9 : Boxed w9 (w5.heap.size + 1) 25 v := HXa.out.kept hgrow9 (HXa.out.not_row (by decide) HO9.out); have cp9 := hX9.cell; have fp9 := hX9.frozen; have Hown9 := Lib.hid hown9; have Hgrow9 := Lib.hid hgrow9; have HX9 := Lib.hid hX9; clear hown9 hgrow9 hX9)
          have hz9 := Hgrow9.out.size
          simp only [World.size_alloc] at hz9
          have hk9 : (w9.setCell ⟨w5.heap.size + 1, 0, none⟩ (.slice (some ⟨g9, 0, none⟩) (ps.length + 1) c9)).heap.size = w9.heap.size := by simp
          have K9 : ∀ r, r < w8.heap.size → some r ≠ v.ownBlock → r ≠ w5.heap.size + 1 → (w9.setCell ⟨w5.heap.size + 1, 0, none⟩ (.slice (some ⟨g9, 0, none⟩) (ps.length + 1) c9)).heap[r]? = w8.heap[r]? := fun r hr h1 h2 =>
            (Below.heap_setCell _ _ _ r h2).trans ((Hgrow9.out.block r (by simp; omega) h1).trans (heap_alloc_old _ _ hr))
          have nb : ∀ r, r < W0.heap.size → some r ≠ v.ownBlock := fun r hr e => by have := (Hvlt.out r e.symm).1; omega
          have K7 : ∀ r, r < W.heap.size → r ≠ w.heap.size → some r ≠ v.ownBlock → r ≠ w5.heap.size + 1 → (w9.setCell ⟨w5.heap.size + 1, 0, none⟩ (.slice (some ⟨g9, 0, none⟩) (ps.length + 1) c9)).heap[r]? = W.heap[r]? := fun r hr h1 h2 h3 => (K9 r (by omega) h2 h3).trans (HK8.out r hr h1)
          have hrow : Br (w9.setCell ⟨w5.heap.size + 1, 0, none⟩ (.slice (some ⟨g9, 0, none⟩) (ps.length + 1) c9)) w.heap.size (fun x => seen x || decide (x ∈ q)) k :=
            Tb.same (Tb.same HS7.out (H8.out.block w.heap.size (by omega) (by omega))) (K9 _ (by omega) (nb _ (by omega)) (by omega))
          have hu8 : Ut 3 W w8 := fun r cs hr => by
            have hrW := lt_of_block hr
            refine (HK8.out r hrW fun e => ?_).trans hr
            rw [e, HsW.out] at hr
            simp only [Option.some.injEq, Obj.cells.injEq] at hr
            exact absurd hr.2.1 (by decide)
          have hu9 : Ut 3 w8 (w9.setCell ⟨w5.heap.size + 1, 0, none⟩ (.slice (some ⟨g9, 0, none⟩) (ps.length + 1) c9)) := fun r cs hr => by
            refine (K9 r (lt_of_block hr) (own_tag HO8.out hr (by decide)) fun e => ?_).trans hr
            have := HX8.out
            unfold Boxed at this
            rw [e, this] at hr
            simp only [Option.some.injEq, Obj.cells.injEq] at hr
            exact absurd hr.2.1 (by decide)
          have hwon : (w9.setCell ⟨w5.heap.size + 1, 0, none⟩ (.slice (some ⟨g9, 0, none⟩) (ps.length + 1) c9)).ownsRow W0.heap.size 29 1 (.slice (some ⟨g9, 0, none⟩) (ps.length + 1) c9) (ps ++ [srt k q]).length (hs ++ [.slice (some ⟨g, 0, none⟩) q.length c]) := by
            rw [List.length_append]
            refine own_same Hown9.out fun r hr => Below.heap_setCell _ _ _ r ?_
            have := (Hown9.out.lt r hr).1
            show r ≠ w5.heap.size + 1
            omega
          have hprt : Pr (w9.setCell ⟨w5.heap.size + 1, 0, none⟩ (.slice (some ⟨g9, 0, none⟩) (ps.length + 1) c9)) W0.heap.size (.slice (some ⟨g9, 0, none⟩) (ps.length + 1) c9) (ps ++ [srt k q]) := by
            have hhl : hs.length = ps.length := by have := Ho.out.1; omega
            refine ⟨_, hwon, fun i p hp => ?_⟩
            rcases Nat.lt_or_ge i ps.length with hi' | hi'
            · rw [List.getElem?_append_left hi'] at hp
              obtain ⟨x, h1, h2⟩ := HI.out i p hp
              exact ⟨x, by rw [List.getElem?_append_left (by omega)]; exact h1, (h2.ut hu8).ut hu9⟩
            · rw [List.getElem?_append_right hi'] at hp
              have hi0 : i - ps.length = 0 := by
                have := (List.getElem?_eq_some_iff.1 hp).1
                simp at this; omega
              rw [hi0] at hp
              simp at hp
              subst hp
              refine ⟨_, by rw [List.getElem?_append_right (by omega), hhl, hi0]; rfl, ?_⟩
              rw [hlq.out]
              exact (ir_own Hown8.out rfl).ut hu9
          have hbel : Below w.heap.size w (w9.setCell ⟨w5.heap.size + 1, 0, none⟩ (.slice (some ⟨g9, 0, none⟩) (ps.length + 1) c9)) := by
            have b7 := hC.bel.trans (H7.out.below (by rintro r rfl; exact Nat.le_refl _) (by omega))
            have b8 := b7.trans (H8.out.below (D := w.heap.size) (by rintro r rfl; omega) (by omega))
            have b9 := (b8.alloc (by omega) (.cells #[.slice (some ⟨g, 0, none⟩) q.length c] 29)).grown Hgrow9.out (by simp; omega) (fun r hr => by have := (Hvlt.out r hr).1; omega)
            exact b9.setCell (by show w.heap.size ≤ w5.heap.size + 1; omega) _
          have hcell : ∀ r cs t, W.heap[r]? = some (.cells cs t (0, 0)) → r < W0.heap.size → r ≠ w.heap.size → r ≠ w5.heap.size + 1 → (w9.setCell ⟨w5.heap.size + 1, 0, none⟩ (.slice (some ⟨g9, 0, none⟩) (ps.length + 1) c9)).heap[r]? = some (.cells cs t (0, 0)) := fun r cs t h h1 h2 h3 => (K7 r (lt_of_block h) h2 (nb r h1) h3).trans h
          refine ⟨⟨by omega, fun r o hr ho hc => ?_⟩, ⟨K7 _ (by omega) (by omega) (nb _ (by omega)) (by omega), K7 _ (by omega) hgs (nb _ (by omega)) (by omega)⟩, ps ++ [srt k q], fun x => seen x || decide (x ∈ q), _, ⟨hrow, fun x y hx e => ?_, hcell _ _ _ hC.bs (by omega) (by omega) (by omega), hcell _ _ _ hC.bt (by omega) (by omega) (by omega), HX9.out.set _, hprt, ?_, hbel, by omega, fun hp => ?_, by simp; omega, fun p hp => ?_, fun e => by simp at e⟩⟩
          · refine (K7 r (lt_of_block ho) (fun e => ?_) (fun e => ?_) (fun e => ?_)).trans ho
            · omega
            · obtain ⟨cs9, h9⟩ : ∃ cs9, W.heap[r]? = some (.cells cs9 29 (0, 0)) := by
                rcases Ho.out.2 with ⟨h0, _⟩ | ⟨g', cap, cur, hv, _, hh, _⟩
                · rw [h0] at e; simp [Value.ownBlock] at e
                · rw [hv] at e
                  have : r = g' := by simpa [Value.ownBlock] using e
                  exact ⟨cur, by rw [this]; exact hh⟩
              rw [h9] at ho
              cases ho
              cases hc
            · omega
          · simp only [Bool.or_eq_true, decide_eq_true_eq] at hx ⊢
            rcases hx with hx | hx
            · exact .inl (hC.shut x y hx e)
            · exact (HL.out.all y ((HL.out.inn x hx).2.2.step e)).symm
          · exact hC.grf.same (K7 _ hC.grf.lt (by omega) (nb _ (by omega)) (by omega)) fun i hi' => K7 _ (hC.grf.rlt hi') (by have := hRT i hi'; omega) (nb _ (by have := hT.rlt hi'; omega)) (by have := hT.rlt hi'; omega)
          · exact snd_step HLL.out hF.out (hC.snd ((List.prefix_append pre _).trans hp)) hp HST.out HL.out
          · rcases List.mem_append.1 hp with hp | hp
            · exact hC.ne p hp
            · obtain rfl : p = srt k q := by simpa using hp
              have htq : t ∈ q := by
                rcases HL.out.all t .refl with h | h
                · exact h
                · rw [HST.out] at h; cases h
              intro e
              have := (mem_srt hq t).1 htq
              rw [e] at this
              simp at this
        · rw [hst] at cs
          have hC2 := Lib.hid (ck_pass hC (⟨t, ht⟩, ix) hst)
          clear hst
          gi_wp2
          exact ⟨KeepsFrom.refl _ _, ⟨rfl, rfl⟩, ps, seen, v, hC2.out⟩
      case done =>
        rintro D ys W hD rfl ⟨ps, seen, v, hC⟩ hK
        have hS := hC.snd (List.prefix_refl _)
        have hLs : (seq LL).reverse.map (fun x => x.1.1) = L := by
          rw [List.map_reverse, val_seq, List.reverse_reverse]
          exact HLL.out
        rw [hLs] at hS
        have HS := Lib.hid hS
        have hpsl : ps.length ≤ 1000 := by
          have := hC.few
          rw [seq_len] at this
          omega
        have cp := hC.bp.cell
        have hWs := hC.size
        have hBW := hC.bel
        clear hS hLs hlt
        by_cases hps : ps = []
        · subst hps
          obtain rfl := hC.nl rfl
          have HN := Lib.hid (sortnone_any (.func (.func 37) #[] #[]) W)
          have hRem := Lib.hid (HS.out.rem (fun x hx => hF.out.upto x hx) (List.Perm.refl _) List.Pairwise.nil)
          gi_wp2_with fail
          refine ⟨trivial, ?_⟩
          refine (callsIn_wide.2 HN.out).mono ?_
          rintro e w7 ⟨rfl, rfl⟩
          gi_wp2
          refine ⟨by simp, .inl ⟨_, _, rfl, run_takeDeferred hK, ?_⟩⟩
          exact ⟨_, results_tmp rfl _ _ _, [], .slice none 0 0, rfl, hRem.out, ⟨[], World.ownsRow_nil _ _ _ _, fun i p h => by simp at h⟩, hBW.trans (belowK_b (w := w) (Nat.le_refl _) w7 D _ _ (by omega) hK rfl rfl)⟩
        · have hpos : 0 < ps.length := List.length_pos_iff.2 hps
          obtain ⟨g, c, rfl, hg1, hg2⟩ : ∃ g c, v = .slice (some ⟨g, 0, none⟩) ps.length c ∧ W0.heap.size ≤ g ∧ g < W.heap.size := by
            obtain ⟨hs, ho, _⟩ := hC.prt
            exact ho.form hpos
          have HSo := Lib.hid (sortfunc_any W0.heap.size g c ps hC.ne hps hpsl W hC.prt)
          obtain ⟨cs9, hg9⟩ := hC.prt.row
          have HC := Lib.hid hC
          clear hC
          gi_wp2_with fail
          refine ⟨trivial, ?_⟩
          refine (callsIn_wide.2 HSo.out).mono ?_
          rintro e w7 ⟨rfl, qs, hp, hso, hpr, hO⟩
          have hRem := Lib.hid (HS.out.rem (fun x hx => hF.out.upto x hx) hp hso)
          have hql : Hid (qs.length = ps.length) := hp.length_eq
          have cp7 : w7.cell? ⟨w5.heap.size + 1, 0, none⟩ = some (.slice (some ⟨g, 0, none⟩) ps.length c) := (World.cell?_of_block (a := ⟨w5.heap.size + 1, 0, none⟩) (hO.block (w5.heap.size + 1) HC.out.bp.lt (by omega))).trans HC.out.bp.cell
          have hK7 : w7.heap[D]? = some (.deferred (some [])) := (hO.block D (lt_of_block hK) (by rintro rfl; rw [hg9] at hK; cases hK)).trans hK
          have hB7 := hBW.trans (hO.below (D := w.heap.size) (by rintro r rfl; omega) (by omega))
          have HPR := Lib.hid hpr
          clear hpr hO cp hp hso
          gi_wp2
          refine ⟨by simp, .inl ⟨_, _, rfl, run_takeDeferred hK7, ?_⟩⟩
          obtain ⟨hs, ho, hi'⟩ := HPR.out
          have hkc : Kc w7 (w7.putObj D (.deferred none)) := Kc.of_own (grownBy_putObj' w7 D _) fun r e => by cases e; exact ⟨_, hK7, rfl⟩
          exact ⟨_, results_tmp rfl _ _ _, qs, .slice (some ⟨g, 0, none⟩) qs.length c, by rw [hql.out]; rfl, hRem.out, hkc.pr ⟨hs, own_mono ho (by omega), hi'⟩, hB7.trans (belowK_b (w := w) (Nat.le_refl _) w7 D _ _ (by omega) hK7 rfl rfl)⟩
      case stop =>
        rintro D c pre W _ _ h _
        exact h.elim

end Go.Proofs.Ytnfjfpiijikniaa.Gp
