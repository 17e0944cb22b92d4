/-
  The walk of graph.inOrder: the components in the order in which they are told. Conditions: at most 1000 things; the parts are the components, by their first things.
-/
import Derived.Test.YtnfjfpiijikniaaIk
import Derived.Deep.AppendLies
namespace Go.Proofs.Ytnfjfpiijikniaa.Gp
open Go.RowKit Go.Shelf
set_option linter.unusedVariables false

set_option maxRecDepth 100000 in
set_option maxHeartbeats 4000000 in
theorem inOrder_any (b : Nat) (R : Nat → Nat) (n : Nat) (G : Nat → Nat → Bool) (hn : n ≤ 1000) (base : Nat) (v : Value) (ps : List (List Nat)) (hR : Rem (Eg n G) n (fun _ => False) ps) (w : World) (hG : Gr w b R n G) (hP : Pr w base v ps) :
    Calls Try.prog 21 #[.slice (some ⟨b, 0, none⟩) n n, v] w (fun e w' => ∃ out A c, e = .returned (.slice A out.length c) ∧ Out (Eg n G) n (fun _ => False) out ∧ Ll w' w'.heap.size A (out.map zs) ∧ Off (fun r => v.ownBlock = some r) w w') := by
  obtain ⟨A0, c0, rfl, hA0⟩ := hP.form
  obtain ⟨j0, hj, hy0, hy1, hy2⟩ := info_parts info4
  obtain ⟨i0, hi, hz0, hz1, hz2⟩ := info_parts info3
  obtain ⟨i9, hi9, hz90, hz91, hz92⟩ := info_parts info29
  have hpl := hR.len
  have HR := Lib.hid hR
  have HG := Lib.hid hG
  have HP := Lib.hid hP
  have HA0 := Lib.hid hA0
  clear hR hG hP hA0
  have Ba : Below w.heap.size w (w.alloc (.cells #[.slice (some ⟨b, 0, none⟩) n n] 40)) := (Below.refl _ _).alloc (Nat.le_refl _) _
  have Xa := Boxed.new w 40 (.slice (some ⟨b, 0, none⟩) n n)
  have ca := Xa.cell
  go_enter Try.func21, Try.ntmps21
  go_wp2_with (first | (at_make; refine wpList_make_full _ rfl _ _ 29 rfl (w.heap.size + 1) 3 i0 (.int .i64 0) 1 Try.underlying29 hi hz0 hz1 _ _ _ _ n rfl rfl rfl rfl (by rw [hz2]; omega) (by unfold maxLen; omega) (by simp) ?_; intro w2 hown2 hgrow2))
  simp only [World.size_alloc] at hown2
  have hz2w := (hown2.lt (w.heap.size + 1) rfl).2
  have X2 : Boxed w2 w.heap.size 40 (.slice (some ⟨b, 0, none⟩) n n) := Xa.kept hgrow2 (by simp)
  have T2 : Tb w2 (w.heap.size + 1) 3 (fun _ => .int .i64 0) n := tb_made hown2 rfl
  have B2 : Below w.heap.size w w2 := Ba.grown hgrow2 (by simp) (by simp)
  have B3 : Below w.heap.size w (w2.alloc (.cells #[.slice (some ⟨w.heap.size + 1, 0, none⟩) n n] 29)) := B2.alloc B2.size _
  have X3 := X2.alloc (.cells #[.slice (some ⟨w.heap.size + 1, 0, none⟩) n n] 29)
  have H3 := Boxed.new w2 29 (.slice (some ⟨w.heap.size + 1, 0, none⟩) n n)
  have T3 : Tb (w2.alloc (.cells #[.slice (some ⟨w.heap.size + 1, 0, none⟩) n n] 29)) (w.heap.size + 1) 3 (fun x => .int .i64 (((fun _ => 0 : Nat → Nat) x : Nat) : Int)) n := (T2.congr fun _ _ => rfl).old _
  clear hown2 hgrow2 X2 T2 B2 Ba Xa ca
  revert hz2w B3 X3 H3 T3
  generalize w2.alloc (.cells #[.slice (some ⟨w.heap.size + 1, 0, none⟩) n n] 29) = W3
  generalize hhb : w2.heap.size = hb
  clear hhb
  intro hz2w B3 X3 H3 T3
  go_loopg [21] ps.length (fun q t W => ∃ (k : Nat) (hm : Nat → Nat), k + q = ps.length ∧ t = .int .i64 (k : Int) ∧ Hid (Below w.heap.size w W) ∧ Hid (Boxed W w.heap.size 40 (.slice (some ⟨b, 0, none⟩) n n)) ∧ Hid (Boxed W hb 29 (.slice (some ⟨w.heap.size + 1, 0, none⟩) n n)) ∧ Hid (Tb W (w.heap.size + 1) 3 (fun x => .int .i64 (hm x : Int)) n) ∧ Hid (∀ i p x, i < k → ps[i]? = some p → x ∈ p → hm x = hd p))
  case atStart => exact ⟨0, fun _ => 0, by omega, rfl, B3, X3, H3, T3, fun i p x h => by omega⟩
  case round =>
    obtain ⟨k, hm, hk, rfl, hB, hX, hH, hT, hV⟩ := hrel
    clear B3 X3 H3 T3
    by_cases hlt : k < ps.length
    · have hki : (k : Int) < (ps.length : Int) := by omega
      have hk0 : (0 : Int) ≤ (k : Int) := by omega
      obtain ⟨g0, rfl⟩ := HA0.out (by omega)
      obtain ⟨hs, ho, hi'⟩ := HP.out
      obtain ⟨x, h1, h2⟩ := hi' k ps[k] (List.getElem?_eq_getElem hlt)
      have hgl0 := (ho.lt g0 rfl).2
      have cx : wr.cell? ⟨g0, k, none⟩ = some x := (World.cell?_of_block (a := ⟨g0, k, none⟩) (hB.out.block g0 hgl0)).trans (own_cell ho h1)
      have hpm : ps[k] ∈ ps := List.getElem_mem hlt
      have HX : Hid (ps[k]? = some ps[k]) := List.getElem?_eq_getElem hlt
      generalize ps[k] = p at *
      have hpn := HR.out.inn hpm
      have hpne := HR.out.ne hpm
      have hpl2 := HR.out.plen hpm
      have h2k := Lib.hid h2
      obtain ⟨g', c', cur, rfl, _⟩ := id h2
      clear ho hi' h1 h2
      have Hpn := Lib.hid hpn
      clear hpn
      go_wp2
      go_loopg [27] p.length (fun q t W => ∃ (j : Nat) (hm : Nat → Nat), j + q = p.length ∧ t = .int .i64 (j : Int) ∧ Hid (Below w.heap.size w W) ∧ Hid (Boxed W w.heap.size 40 (.slice (some ⟨b, 0, none⟩) n n)) ∧ Hid (Boxed W hb 29 (.slice (some ⟨w.heap.size + 1, 0, none⟩) n n)) ∧ Hid (Tb W (w.heap.size + 1) 3 (fun x => .int .i64 (hm x : Int)) n) ∧ Hid (∀ i p x, i < k → ps[i]? = some p → x ∈ p → hm x = hd p) ∧ Hid (∀ i x, i < j → p[i]? = some x → hm x = hd p))
      case atStart => exact ⟨0, hm, by omega, rfl, hB.out, hX.out, hH.out, hT.out, hV.out, fun i x h => by omega⟩
      case round =>
        obtain ⟨j, hm2, hj, rfl, hB2, hX2, hH2, hT2, hV2, hW2⟩ := hrel
        have hI2 := Lib.hid (h2k.out.ut (Ut.of_below hB2.out))
        by_cases hjt : j < p.length
        · have hji : (j : Int) < (p.length : Int) := by omega
          have hj0 : (0 : Int) ≤ (j : Int) := by omega
          have hpi : (0 : Int) < (p.length : Int) := by omega
          have ct := hI2.out.cell (List.getElem?_eq_getElem hjt)
          have htn := Hpn.out p[j] (List.getElem_mem hjt)
          have HJ : Hid (p[j]? = some p[j]) := List.getElem?_eq_getElem hjt
          have hmem : p[j] ∈ p := List.getElem_mem hjt
          generalize p[j] = t at *
          have hti : (t : Int) < (n : Int) := by omega
          have ht0 : (0 : Int) ≤ (t : Int) := by omega
          have c0 := hI2.out.cell (j := 0) (x := hd p) (by cases p <;> simp_all [hd])
          have ch := hH2.out.cell
          have cr := hT2.out.cell htn
          have fr := hT2.out.free t
          have E1 : Tb (wr.setCell ⟨w.heap.size + 1, t, none⟩ (.int .i64 (hd p : Int))) (w.heap.size + 1) 3 (fun x => .int .i64 (((fun x => if x = t then hd p else hm2 x) x : Nat) : Int)) n := (hT2.out.set t _).congr fun x _ => by
            by_cases e : x = t <;> simp [e]
          have F1 : Below w.heap.size w (wr.setCell ⟨w.heap.size + 1, t, none⟩ (.int .i64 (hd p : Int))) := hB2.out.setCell (by show w.heap.size ≤ w.heap.size + 1; omega) _
          have oth : ∀ r, r ≠ w.heap.size + 1 → (wr.setCell ⟨w.heap.size + 1, t, none⟩ (.int .i64 (hd p : Int))).heap[r]? = wr.heap[r]? := fun r h => Below.heap_setCell _ _ _ r h
          have X1 : Boxed (wr.setCell ⟨w.heap.size + 1, t, none⟩ (.int .i64 (hd p : Int))) w.heap.size 40 (.slice (some ⟨b, 0, none⟩) n n) := (oth _ (by omega)).trans hX2.out
          have H1 : Boxed (wr.setCell ⟨w.heap.size + 1, t, none⟩ (.int .i64 (hd p : Int))) hb 29 (.slice (some ⟨w.heap.size + 1, 0, none⟩) n n) := (oth _ (by omega)).trans hH2.out
          have V1 : Hid (∀ i q x, i < k → ps[i]? = some q → x ∈ q → (if x = t then hd p else hm2 x) = hd q) := fun i q x hi hq hx => by
            by_cases e : x = t
            · subst e
              rw [if_pos rfl, HR.out.same hpm (List.mem_of_getElem? hq) hmem hx]
            · rw [if_neg e]; exact hV2.out i q x hi hq hx
          have V2 : Hid (∀ i x, i < j + 1 → p[i]? = some x → (if x = t then hd p else hm2 x) = hd p) := fun i x hi hx => by
            by_cases e : x = t
            · rw [if_pos e]
            · rw [if_neg e]
              rcases Nat.lt_or_ge i j with h | h
              · exact hW2.out i x h hx
              · obtain rfl : i = j := by omega
                rw [HJ.out] at hx
                cases hx
                exact absurd rfl e
          have HE1 := Lib.hid E1
          have HF1 := Lib.hid F1
          have HX1 := Lib.hid X1
          have HH1 := Lib.hid H1
          clear E1 F1 X1 H1 oth
          generalize (hd p : Int) = u at *
          go_wp2
          go_region
          go_wp2
          go_roundg (p.length - (j + 1))
          case measure => omega
          case rel => exact ⟨j + 1, _, by omega, by go_num, HF1.out.drew, HX1.out, HH1.out, HE1.out, V1.out, V2.out⟩
        · obtain rfl : j = p.length := by omega
          have V1 : Hid (∀ i q x, i < k + 1 → ps[i]? = some q → x ∈ q → hm2 x = hd q) := fun i q x hi hq hx => by
            rcases Nat.lt_or_ge i k with h | h
            · exact hV2.out i q x h hq hx
            · obtain rfl : i = k := by omega
              rw [HX.out] at hq
              cases hq
              obtain ⟨y, hy⟩ := List.getElem?_of_mem hx
              exact hW2.out y x (List.getElem?_eq_some_iff.1 hy).1 hy
          go_wp2
          go_roundg (ps.length - (k + 1))
          case measure => omega
          case rel => exact ⟨k + 1, hm2, by omega, by go_num, hB2.out, hX2.out, hH2.out, hT2.out, V1.out⟩
    · obtain rfl : k = ps.length := by omega
      have hmT : Hid (∀ y, y < n → hm y = hd (cmp (Eg n G) n y)) := fun y hy => by
        obtain ⟨p, hp, hyp⟩ := HR.out.all y hy (fun f => f)
        obtain ⟨i, hip⟩ := List.getElem?_of_mem hp
        rw [hV.out i p y (List.getElem?_eq_some_iff.1 hip).1 hip hyp]
        obtain ⟨a, _, _, rfl⟩ := HR.out.isc p hp
        rw [cmp_same hyp]
      have cX := hX.out.cell
      go_wp2_with (first | (at_make; refine wpList_make_full _ rfl _ _ 38 rfl wr.heap.size 4 j0 (.bool false) 1 (by kernel_rfl) hj hy0 hy1 _ _ _ _ n rfl rfl rfl rfl (by rw [hy2]; omega) (by unfold maxLen; omega) (Nat.le_refl _) ?_; intro w4 hown4 hgrow4))
      have hRt : ∀ i, i < n → R i ≠ wr.heap.size := fun i hi => by
        have := HG.out.rlt hi
        have := hH.out.lt
        omega
      have B4 : Below w.heap.size w (w4.alloc (.cells #[.slice (some ⟨wr.heap.size, 0, none⟩) n n] 38)) := (hB.out.grown hgrow4 hB.out.size (by simp)).alloc (Nat.le_trans hB.out.size hgrow4.size) _
      have F4 : Fw (w4.alloc (.cells #[.slice (some ⟨wr.heap.size, 0, none⟩) n n] 38)) n b R G w.heap.size w4.heap.size hb wr.heap.size (w.heap.size + 1) (fun _ => false) hm :=
        ⟨(hX.out.kept hgrow4 (by simp)).alloc _, Boxed.new w4 38 _, (hH.out.kept hgrow4 (by simp)).alloc _, HG.out.up B4, Tb.old (tb_made hown4 rfl) _, Tb.old (Tb.same hT.out (hgrow4.block _ hT.out.lt (by simp))) _⟩
      have hhbl := hH.out.lt
      have hsz4 := hgrow4.size
      clear hown4 hgrow4 hX hH hT hV hB cX
      revert B4 F4
      generalize w4.alloc (.cells #[.slice (some ⟨wr.heap.size, 0, none⟩) n n] 38) = W5
      generalize hte : w4.heap.size = tb at *
      generalize htr : wr.heap.size = tr at *
      clear hte htr
      intro B4 F4
      have HB4 := Lib.hid B4
      have HF4 := Lib.hid F4
      have HRt := Lib.hid hRt
      clear B4 F4 hRt
      go_loopg [1, 12] ps.length (fun q pv ov W => ∃ (ps' : List (List Nat)) (told : Nat → Bool) (out : List (List Nat)), pv = .slice A0 ps'.length c0 ∧ Hid (ps'.length = q) ∧ Hid (out.length + ps'.length ≤ n) ∧ Hid (Sf (Eg n G) n (fun x => told x = true) out) ∧ Hid (Rem (Eg n G) n (fun x => told x = true) ps') ∧ Hid (Pr W base (.slice A0 ps'.length c0) ps') ∧ Hid (Pr W W5.heap.size ov out) ∧ Hid (Fw W n b R G w.heap.size tb hb tr (w.heap.size + 1) told hm) ∧ Hid (Off (fun r => (Value.slice A0 ps.length c0).ownBlock = some r) w W) ∧ Hid (W5.heap.size ≤ W.heap.size))
      case atStart =>
        refine ⟨ps, fun _ => false, [], rfl, rfl, by show _ ≤ n; simp; exact hpl, ?_, ?_, ?_, ?_, HF4.out, ?_, Nat.le_refl _⟩
        · have := Sf.start (E := Eg n G) (m := n)
          exact this.congr fun x => by simp
        · have e : (fun x : Nat => (fun _ => false : Nat → Bool) x = true) = fun _ => False := by funext x; simp
          show Rem (Eg n G) n (fun x : Nat => (fun _ => false : Nat → Bool) x = true) ps
          rw [e]; exact HR.out
        · exact HP.out.up HB4.out
        · exact ⟨[], World.ownsRow_nil _ _ _ _, fun i p h => by simp at h⟩
        · exact Off.of_below HB4.out
      case round =>
        obtain ⟨ps', told, out, rfl, hq, hol, hSf, hRem, hPr, hPo, hF, hOff, hsz⟩ := hrel
        by_cases hlt : 0 < ps'.length
        · obtain ⟨A1, c1, hv1, hg1⟩ := hPr.out.form
          obtain ⟨g, hg⟩ := hg1 hlt
          simp only [Value.slice.injEq] at hv1
          obtain ⟨e1, _, e2⟩ := hv1
          rw [hg] at e1
          subst e1
          clear hg hg1 e2
          have hne : ps' ≠ [] := List.length_pos_iff.1 hlt
          have hki : (0 : Int) < (ps'.length : Int) := by omega
          obtain ⟨pf, hpfm, hpf⟩ := hRem.out.free (eg_in n G) hSf.out.shut hne
          have hex := (fb_iff (n := n) (G := G) (told := told) (hm := hm)).2 ((hf_pf hRem.out hmT.out hpfm).2 hpf)
          have hps1000 : ps'.length ≤ 1000 := by have := hol.out; omega
          have HI := Lib.hid (fidx_any w.heap.size tb hb base g c0 ps' (fb n G told hm) hps1000 wr hPr.out (fun W hW p hp h hir => free_any n b R G w.heap.size tb hb tr (w.heap.size + 1) told hm hn h p (hRem.out.ne hp) (hRem.out.inn hp) (by have := hRem.out.plen hp; omega) (fb n G told hm p) fb_iff W (hF.out.up hW) hir) ⟨pf, hpfm, hex⟩)
          clear hpfm hpf hex hne
          go_wp2_with fail
          refine HI.out.mono ?_
          rintro e w1 ⟨⟨A, p, C, rfl, hrp, hrA, rfl⟩, b1⟩
          have hpm : p ∈ A ++ p :: C := by simp
          have hpf : Pf (Eg n G) (fun x => told x = true) p := (hf_pf hRem.out hmT.out hpm).1 (fb_iff.1 hrp)
          have hAf : ∀ q, q ∈ A → ¬ Pf (Eg n G) (fun x => told x = true) q := fun q hq h => by
            have h1 := hrA q hq
            rw [fb_iff.2 ((hf_pf hRem.out hmT.out (by simp [hq])).2 h)] at h1
            cases h1
          have HT := Lib.hid (told_step hSf.out hRem.out hpf hAf)
          have HP1 := Lib.hid (hPr.out.up b1)
          have HO1 := Lib.hid (hPo.out.up b1)
          have HF1 := Lib.hid (hF.out.up b1)
          have Hoff1 := Lib.hid (hOff.out.then b1)
          have Hsz1 : Hid (W5.heap.size ≤ w1.heap.size) := Nat.le_trans hsz.out b1.size
          have Hpn := Lib.hid (hRem.out.inn hpm)
          have hpl3 : p.length ≤ 1000 := by have := hRem.out.plen hpm; omega
          have HD := Lib.hid (fun W => delete_any base g c0 A C p W)
          obtain ⟨x, hx⟩ : ∃ x, w1.cell? ⟨g, A.length, none⟩ = some x ∧ Ir w1 x p := by
            obtain ⟨hs, ho, hi'⟩ := HP1.out
            obtain ⟨x, h1, h2⟩ := hi' A.length p (by simp)
            exact ⟨x, own_cell ho h1, h2⟩
          obtain ⟨hs2, ho2, hi2⟩ := HO1.out
          have hgrow : ∃ cs, w1.heap[g]? = some (.cells cs 29 (0, 0)) := HP1.out.row
          have hgw : g < w.heap.size := by
            obtain ⟨hs, ho, _⟩ := HP.out
            exact (ho.lt g rfl).2
          have Hgrow := Lib.hid hgrow
          have Hx := Lib.hid hx.2
          have cx := hx.1
          obtain ⟨g', c', cur, rfl, _⟩ := hx.2
          have hALc : (A ++ p :: C).length = A.length + C.length + 1 := by simp; omega
          have hkLL : A.length < (A ++ p :: C).length := by omega
          clear hALc
          clear hx HI hRem hSf hPr hF hOff hsz hPo b1 hrp hrA hpf hAf hgrow hpm
          generalize hL : (A ++ p :: C).length = L at *
          generalize hka : A.length = ka at *
          have hkL : (ka : Int) < (L : Int) := by omega
          have hk0 : (0 : Int) ≤ (ka : Int) := by omega
          have HL := Lib.hid hL
          have HKA := Lib.hid hka
          clear hL hka
          go_wp2
          go_loopg [54] p.length (fun q t W => ∃ (j : Nat), j + q = p.length ∧ t = .int .i64 (j : Int) ∧ Hid (Fw W n b R G w.heap.size tb hb tr (w.heap.size + 1) (fun x => told x || decide (x ∈ p.take j)) hm) ∧ Hid (Off (· = tr) w1 W))
          case atStart => exact ⟨0, by omega, rfl, HF1.out.congr fun x _ => by simp, Off.refl _ _⟩
          case round =>
            obtain ⟨j, hj, rfl, hF, hO⟩ := hrel
            have tr1 : w1.heap[tr]? = some (.cells (tab (fun j => .bool (told j)) n) 4 (0, 0)) := HF1.out.rt
            by_cases hjt : j < p.length
            · have hji : (j : Int) < (p.length : Int) := by omega
              have hj0 : (0 : Int) ≤ (j : Int) := by omega
              have ct := (Hx.out.ut (Ut.of_off hO.out tr1 (by decide))).cell (List.getElem?_eq_getElem hjt)
              have hyn := Hpn.out p[j] (List.getElem_mem hjt)
              have HM := Lib.hid (upd_take told p j hjt)
              generalize p[j] = y at *
              have hyi : (y : Int) < (n : Int) := by omega
              have hy00 : (0 : Int) ≤ (y : Int) := by omega
              have c1 := hF.out.bt.cell
              have c2 := hF.out.tcell hyn
              have c3 := hF.out.tfree y
              have HF2 := Lib.hid ((hF.out.mark HRt.out y).congr fun x _ => HM.out x)
              have HO2 := Lib.hid (hO.out.set (p := ⟨tr, y, none⟩) (.inl rfl) (.bool true))
              clear tr1
              go_wp2
              go_roundg (p.length - (j + 1))
              case measure => omega
              case rel => exact ⟨j + 1, by omega, by go_num, HF2.out, HO2.out⟩
            · obtain rfl : j = p.length := by omega
              have HF2 : Hid (Fw wr n b R G w.heap.size tb hb tr (w.heap.size + 1) (fun x => told x || decide (x ∈ p)) hm) := hF.out.congr fun x _ => by rw [List.take_length]
              have HP2 := Lib.hid (HP1.out.off hO.out tr1)
              have Hx2 := Lib.hid (Hx.out.ut (Ut.of_off hO.out tr1 (by decide)))
              have hu2 := Ut.of_off hO.out tr1 (t := 3) (by decide)
              have ho3 := own_same (w' := wr) ho2 fun r hr => hO.out.block r (ho2.lt r hr).2 (fun e => own_tag ho2 tr1 (by decide) (by rw [hr, e]))
              have hgt : g ≠ tr := by
                obtain ⟨cs, h⟩ := Hgrow.out
                exact other_tag h tr1 (by decide)
              have cx2 : wr.cell? ⟨g, ka, none⟩ = some (.slice (some ⟨g', 0, none⟩) p.length c') := by
                obtain ⟨cs, h⟩ := Hgrow.out
                exact (World.cell?_of_block (a := ⟨g, ka, none⟩) (hO.out.block g (lt_of_block h) hgt)).trans cx
              have Hg2 : Hid (∃ cs, wr.heap[g]? = some (.cells cs 29 (0, 0))) := by
                obtain ⟨cs, h⟩ := Hgrow.out
                exact ⟨cs, (hO.out.block g (lt_of_block h) hgt).trans h⟩
              have Hoff2 := Lib.hid (Hoff1.out.trans hO.out (fun r hr => .inr (by rw [hr]; have := HB4.out.size; omega)))
              have Hsz2 : Hid (W5.heap.size ≤ wr.heap.size) := Nat.le_trans Hsz1.out hO.out.size
              have HOr := Lib.hid (own_same (w' := wr.alloc (.cells #[.slice (some ⟨g', 0, none⟩) p.length c'] 29)) ho3 fun r hr => heap_alloc_old _ _ (ho3.lt r hr).2)
              have HN := Lib.hid (heap_alloc_new wr (.cells #[.slice (some ⟨g', 0, none⟩) p.length c'] 29))
              have Hlt3 := Lib.hid ho3.lt
              have Hi2 : Hid (∀ (i : Nat) (p : List Nat), out[i]? = some p → ∃ h, hs2[i]? = some h ∧ Ir wr h p) := fun i p hp => by
                obtain ⟨x, h1, h2⟩ := hi2 i p hp
                exact ⟨x, h1, h2.ut hu2⟩
              have Hho3 := Lib.hid ho3
              have hol2 : out.length ≤ 1000 := by have := hol.out; omega
              have hsz2 : W5.heap.size ≤ wr.heap.size := Hsz2.out
              clear cx ho2 hi2 hu2 ho3 tr1 hF hO Hx HP1 HO1 HF1 Hoff1 Hsz1
              go_wp2_with (at_builtin; refine wpList_append_lies _ rfl _ _ 25 rfl W5.heap.size 29 i9 (.slice none 0 0) 1 24 Try.underlying25 hi9 hz90 hz91 hz92 rfl (by decide) u12 out.length hs2 rfl HOr.out ⟨wr.heap.size, 0, none⟩ 1 1 [.slice (some ⟨g', 0, none⟩) p.length c'] rfl rfl (World.news_of_block HN.out) (by intro u hu; simp at hu; subst hu; rfl) (by decide) (by unfold maxLen; omega) (by omega) (by simp; omega) (wr.heap.size + 1) (by simp) ?_; intro g9 c9 w9 hown9 hgrow9 hat9 hlt9)
              have b0 : Below wr.heap.size wr (wr.alloc (.cells #[.slice (some ⟨g', 0, none⟩) p.length c'] 29)) := (Below.refl _ _).alloc (Nat.le_refl _) _
              have hr9 := own_row HOr.out
              have HP9 := Lib.hid ((HP2.out.up b0).grown hgrow9 hr9 (fun r hr e => by
                have h1 := (Hlt3.out r e.symm).1
                have h2 : r = g := by simpa [Value.ownBlock] using hr.symm
                have := HB4.out.size
                omega))
              have HO9 := Lib.hid (pr_more (fun i q hq => by obtain ⟨y, k1, k2⟩ := Hi2.out i q hq; exact ⟨y, k1, k2.ut (Ut.of_below b0)⟩) (by have := Hho3.out.1; omega) (Hx2.out.ut (Ut.of_below b0)) hgrow9 hr9 hown9 rfl)
              have HF9 := Lib.hid (HF4.out.keep HF2.out (((Below.refl W5.heap.size wr).alloc hsz2 (.cells #[.slice (some ⟨g', 0, none⟩) p.length c'] 29)).grown hgrow9 (by simp; omega) (fun r hr => (Hlt3.out r hr).1)))
              have Hoff9 := Lib.hid ((Hoff2.out.alloc (.cells #[.slice (some ⟨g', 0, none⟩) p.length c'] 29)).grown hgrow9 (fun r hr => .inr (by have := (Hlt3.out r hr).1; have := HB4.out.size; omega)))
              have Hsz9 : Hid (W5.heap.size ≤ w9.heap.size) := by
                have := hgrow9.size
                simp only [World.size_alloc] at this
                show _ ≤ _
                omega
              have Hg9 := Lib.hid HP9.out.row
              have HD9 := Lib.hid (HD.out w9 HP9.out)
              have hhbg : hb ≠ g := by omega
              have hg5 : g < W5.heap.size := by have := HB4.out.size; omega
              clear b0 hr9 hown9 hgrow9 hat9
              go_wp2_with fail
              refine HD9.out.mono ?_
              rintro e w10 ⟨rfl, hP10, hO10⟩
              have HP10 := Lib.hid hP10
              have HO10 : Hid (Pr w10 W5.heap.size (.slice (some ⟨g9, 0, none⟩) (out.length + 1) c9) (out ++ [p])) := by
                obtain ⟨cs, h⟩ := Hg9.out
                exact HO9.out.cut hO10 h hg5
              have HF10 : Hid (Fw w10 n b R G w.heap.size tb hb tr (w.heap.size + 1) (fun x => told x || decide (x ∈ p)) hm) := by
                obtain ⟨cs, h⟩ := Hg9.out
                exact HF9.out.off hO10 h hhbg
              have Hoff10 := Lib.hid (Hoff9.out.trans hO10 (fun r hr => .inl (by rw [hr]; rfl)))
              have Hsz10 : Hid (W5.heap.size ≤ w10.heap.size) := Nat.le_trans Hsz9.out hO10.size
              have hlo : Hid ((out ++ [p]).length + (A ++ C).length ≤ n) := by
                have h1 := hol.out
                have h2 := HL.out
                show _ ≤ _
                simp only [List.length_append, List.length_cons, List.length_nil] at h2 ⊢
                omega
              clear hP10 hO10
              go_wp2
              go_roundg (A ++ C).length
              case measure =>
                have h1 := hq.out
                have h2 := HL.out
                simp only [List.length_append, List.length_cons] at h2 ⊢
                omega
              case rel => exact ⟨A ++ C, _, out ++ [p], by rw [List.length_append], rfl, hlo.out, HT.out.1, HT.out.2, HP10.out, HO10.out, HF10.out, Hoff10.out, Hsz10.out⟩
        · obtain rfl : ps' = [] := List.length_eq_zero_iff.1 (by omega)
          have hO : Hid (Out (Eg n G) n (fun _ => False) out) := all_told hSf.out hRem.out
          obtain ⟨Ao, co, rfl, _⟩ := hPo.out.form
          have hL := Lib.hid hPo.out.ll
          go_wp2
          go_ret
          exact ⟨out, Ao, co, rfl, hO.out, hL.out, hOff.out⟩

end Go.Proofs.Ytnfjfpiijikniaa.Gp
