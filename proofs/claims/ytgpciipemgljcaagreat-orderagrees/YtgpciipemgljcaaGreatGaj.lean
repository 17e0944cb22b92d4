/-
  The walks of the closure that tells whether a part is free, and of slices.IndexFunc with it. Conditions: at most 1000 things and parts.
-/
import Derived.Test.YtgpciipemgljcaaGreatGai
import Derived.Test.YtgpciipemgljcaaGreatGab
import Derived.Deep.AppendLies
namespace Go.Proofs.YtgpciipemgljcaaGreat.Gp
open Go.RowKit Go.Shelf
set_option linter.unusedVariables false

/-- The closure's world: the graph, what was told, the homes. -/
structure Fw (w : World) (n : Nat) (b : Nat) (R : Nat → Nat) (G : Nat → Nat → Bool) (gb tb hb tr hr : Nat) (told : Nat → Bool) (hm : Nat → Nat) : Prop where
  bg : Boxed w gb 83 (.slice (some ⟨b, 0, none⟩) n n)
  bt : Boxed w tb 41 (.slice (some ⟨tr, 0, none⟩) n n)
  bh : Boxed w hb 26 (.slice (some ⟨hr, 0, none⟩) n n)
  gr : Gr w b R n G
  rt : Br w tr told n
  rh : Tb w hr 3 (fun x => .int .i64 (hm x : Int)) n
theorem Fw.up {w w' : World} {n b : Nat} {R : Nat → Nat} {G : Nat → Nat → Bool} {gb tb hb tr hr : Nat} {told : Nat → Bool} {hm : Nat → Nat} (h : Fw w n b R G gb tb hb tr hr told hm) (hb' : Below w.heap.size w w') : Fw w' n b R G gb tb hb tr hr told hm :=
  ⟨(hb'.block gb h.bg.lt).trans h.bg, (hb'.block tb h.bt.lt).trans h.bt, (hb'.block hb h.bh.lt).trans h.bh, h.gr.up hb', Tb.on h.rt hb' (Tb.lt h.rt), Tb.on h.rh hb' (Tb.lt h.rh)⟩

/-- Nothing that this thing waits for is left over, by homes. -/
def Hf (n : Nat) (G : Nat → Nat → Bool) (told : Nat → Bool) (hm : Nat → Nat) (h : Nat) (x k : Nat) : Prop := ∀ y, y < k → G x y = true → told y = true ∨ hm y = h

set_option maxRecDepth 100000 in
set_option maxHeartbeats 4000000 in
theorem free_any (n b : Nat) (R : Nat → Nat) (G : Nat → Nat → Bool) (gb tb hb tr hr : Nat) (told : Nat → Bool) (hm : Nat → Nat) (hn : n ≤ 1000) (v : Value) (p : List Nat) (hp : p ≠ []) (hpn : ∀ x ∈ p, x < n) (hpl : p.length ≤ 1000) (r : Bool) (hr2 : r = true ↔ ∀ x, x ∈ p → Hf n G told hm (hd p) x n)
    (w : World) (hF : Fw w n b R G gb tb hb tr hr told hm) (hv : Ir w v p) : Calls Tryz.prog 77 #[v, .pointer (some ⟨gb, 0, none⟩), .pointer (some ⟨tb, 0, none⟩), .pointer (some ⟨hb, 0, none⟩)] w (BoolPost w r) := by
  obtain ⟨g, c, cur, rfl, hh, hcur⟩ := id hv
  have HF := Lib.hid hF
  have HV := Lib.hid hv
  have HR := Lib.hid hr2
  have HP := Lib.hid hpn
  have hp0 : 0 < p.length := List.length_pos_iff.2 hp
  have hpi : (0 : Int) < (p.length : Int) := by omega
  have hhd : Hid (p[0]? = some (hd p)) := by
    show _ = _
    cases p with
    | nil => simp at hp0
    | cons x p => simp [hd]
  clear hF hv hr2 hpn hh hcur
  go_enter Tryz.func77, Tryz.ntmps77
  go_wp2
  go_loopg [12] p.length (fun q t W => ∃ k : Nat, k + q = p.length ∧ t = .int .i64 (k : Int) ∧ Below w.heap.size w W ∧ Hid (∀ i x, i < k → p[i]? = some x → Hf n G told hm (hd p) x n))
  case atStart => exact ⟨0, by omega, rfl, Below.refl _ _, fun i x h => by omega⟩
  case round =>
    obtain ⟨k, hk, rfl, hbel, hyes⟩ := hrel
    have F := HF.out.up hbel
    by_cases hlt : k < p.length
    · have hki : (k : Int) < (p.length : Int) := by omega
      have hk0 : (0 : Int) ≤ (k : Int) := by omega
      have hvk : Ir wr (.slice (some ⟨g, 0, none⟩) p.length c) p := HV.out.ut (Ut.of_below hbel)
      have cx := hvk.cell (List.getElem?_eq_getElem hlt)
      have hxn := HP.out p[k] (List.getElem_mem hlt)
      have HX : Hid (p[k]? = some p[k]) := List.getElem?_eq_getElem hlt
      generalize p[k] = x at *
      have hxi : (x : Int) < (n : Int) := by omega
      have hx0 : (0 : Int) ≤ (x : Int) := by omega
      have cg := F.bg.cell
      have chx := F.gr.hcell hxn
      have HB := Lib.hid hbel
      clear hbel hvk
      go_wp2
      go_loopg [21] n (fun q t W => ∃ j : Nat, j + q = n ∧ t = .int .i64 (j : Int) ∧ Below wr.heap.size wr W ∧ Hid (Hf n G told hm (hd p) x j))
      case atStart => exact ⟨0, by omega, rfl, Below.refl _ _, fun y h => by omega⟩
      case round =>
        obtain ⟨j, hj, rfl, hbel, hyj⟩ := hrel
        have F2 := F.up hbel
        by_cases hjt : j < n
        · have hji : (j : Int) < (n : Int) := by omega
          have hj0 : (0 : Int) ≤ (j : Int) := by omega
          have c1 := F2.gr.cell hxn hjt
          have HNX : Hid ((G x j = true → told j = true ∨ hm j = hd p) → Hf n G told hm (hd p) x (j + 1)) := fun e y hy hG => by
            rcases Nat.lt_or_ge y j with h | h
            · exact hyj.out y h hG
            · obtain rfl : y = j := by omega
              exact e hG
          rcases hGv : G x j with _ | _
          · rw [hGv] at c1
            have HY := Lib.hid (HNX.out (fun h => by rw [hGv] at h; cases h))
            clear hGv HNX
            go_wp2
            go_quiet (fail)
            go_wp2
            go_roundg (n - (j + 1))
            case measure => omega
            case rel => exact ⟨j + 1, by omega, by go_num, below_drewN hbel _, HY.out⟩
          · rw [hGv] at c1
            have ct := F2.bt.cell
            have c2 := F2.rt.cell hjt
            rcases htv : told j with _ | _
            · rw [htv] at c2
              have ch := F2.bh.cell
              have c3 : wr.cell? ⟨hr, j, none⟩ = some (.int .i64 (hm j : Int)) := F2.rh.cell hjt
              have hvk : Ir wr (.slice (some ⟨g, 0, none⟩) p.length c) p := HV.out.ut (Ut.of_below (HB.out.trans (hbel.mono HB.out.size)))
              have c4 := hvk.cell hhd.out
              have HNO : Hid (hm j ≠ hd p → r = false) := fun e => by
                rcases hrr : r with _ | _
                · rfl
                · rcases HR.out.1 hrr x (List.mem_of_getElem? HX.out) j hjt hGv with h | h
                  · rw [htv] at h; cases h
                  · exact absurd h e
              have HYS : Hid (hm j = hd p → Hf n G told hm (hd p) x (j + 1)) := fun e => HNX.out fun _ => .inr e
              clear hvk hGv htv HNX
              by_cases he : hm j = hd p
              · have HY := Lib.hid (HYS.out he)
                have he2 : ((hm j : Int) != (hd p : Int)) = false := by simp [he]
                clear HYS HNO he
                generalize (hm j : Int) = u1 at *
                generalize (hd p : Int) = u2 at *
                go_wp2
                go_quiet (fail)
                go_wp2
                go_roundg (n - (j + 1))
                case measure => omega
                case rel => exact ⟨j + 1, by omega, by go_num, below_drewN hbel _, HY.out⟩
              · obtain rfl := HNO.out he
                have he2 : ((hm j : Int) != (hd p : Int)) = true := by simpa using (fun e : (hm j : Int) = (hd p : Int) => he (by omega))
                have hB := HB.out.trans (hbel.mono HB.out.size)
                clear HYS HNO he
                generalize (hm j : Int) = u1 at *
                generalize (hd p : Int) = u2 at *
                go_wp2
                go_quiet (fail)
                go_wp2
                go_ret
                exact ⟨rfl, below_drewN hB _⟩
            · rw [htv] at c2
              have HY := Lib.hid (HNX.out (fun h => .inl htv))
              clear hGv htv HNX
              go_wp2
              go_quiet (fail)
              go_wp2
              go_roundg (n - (j + 1))
              case measure => omega
              case rel => exact ⟨j + 1, by omega, by go_num, below_drewN hbel _, HY.out⟩
        · obtain rfl : j = n := by omega
          have hB := HB.out.trans (hbel.mono HB.out.size)
          have HY : Hid (∀ i x, i < k + 1 → p[i]? = some x → Hf j G told hm (hd p) x j) := fun i y hi hy => by
            rcases Nat.lt_or_ge i k with h | h
            · exact hyes.out i y h hy
            · obtain rfl : i = k := by omega
              rw [HX.out] at hy
              cases hy
              exact hyj.out
          go_wp2
          go_roundg (p.length - (k + 1))
          case measure => omega
          case rel => exact ⟨k + 1, by omega, by go_num, hB, HY.out⟩
    · obtain rfl : k = p.length := by omega
      have HP2 : Hid (r = true) := HR.out.2 fun x hx => by
        obtain ⟨i, hi⟩ := List.getElem?_of_mem hx
        exact hyes.out i x (List.getElem?_eq_some_iff.1 hi).1 hi
      obtain rfl := HP2.out
      go_wp2
      go_ret
      exact ⟨rfl, hbel⟩

end Go.Proofs.YtgpciipemgljcaaGreat.Gp

/-
  The walk of slices.IndexFunc with the closure that tells whether a part is free. Conditions: at most 1000 parts, one of which is free.
-/
namespace Go.Proofs.YtgpciipemgljcaaGreat.Gp
open Go.RowKit Go.Shelf
set_option linter.unusedVariables false

set_option maxHeartbeats 1000000 in
theorem fidx_any (gb tb hb : Nat) (base g c : Nat) (ps : List (List Nat)) (r : List Nat → Bool) (hl : ps.length ≤ 1000) (w : World) (hP : Pr w base (.slice (some ⟨g, 0, none⟩) ps.length c) ps)
    (hC : ∀ W, Below w.heap.size w W → ∀ p ∈ ps, ∀ h, Ir W h p → Calls Tryz.prog 77 #[h, .pointer (some ⟨gb, 0, none⟩), .pointer (some ⟨tb, 0, none⟩), .pointer (some ⟨hb, 0, none⟩)] W (BoolPost W (r p))) (hex : ∃ p, p ∈ ps ∧ r p = true) :
    Calls Tryz.prog 78 #[.slice (some ⟨g, 0, none⟩) ps.length c, .func (.func 77) #[] #[.pointer (some ⟨gb, 0, none⟩), .pointer (some ⟨tb, 0, none⟩), .pointer (some ⟨hb, 0, none⟩)]] w
      (fun e w' => (∃ A p C, ps = A ++ p :: C ∧ r p = true ∧ (∀ q ∈ A, r q = false) ∧ e = .returned (.int .i64 (A.length : Int))) ∧ Below w.heap.size w w') := by
  obtain ⟨hs, ho, hi⟩ := hP
  have HC := Lib.hid hC
  have HE := Lib.hid hex
  have HO := Lib.hid ho
  have HI := Lib.hid hi
  have hgl := (ho.lt g rfl).2
  clear hC hex ho hi
  go_enter Tryz.func78, Tryz.ntmps78
  go_wp2
  go_loopg [8] ps.length (fun q t W => ∃ k : Nat, k + q = ps.length ∧ t = .int .i64 (k : Int) ∧ Below w.heap.size w W ∧ Hid (∀ i p, i < k → ps[i]? = some p → r p = false))
  case atStart => exact ⟨0, by omega, rfl, Below.refl _ _, fun i p h => by omega⟩
  case round =>
    obtain ⟨k, hk, rfl, hbel, hno⟩ := hrel
    by_cases hlt : k < ps.length
    · have hki : (k : Int) < (ps.length : Int) := by omega
      have hk0 : (0 : Int) ≤ (k : Int) := by omega
      obtain ⟨x, h1, h2⟩ := HI.out k ps[k] (List.getElem?_eq_getElem hlt)
      have cx : wr.cell? ⟨g, k, none⟩ = some x := (World.cell?_of_block (a := ⟨g, k, none⟩) (hbel.block g hgl)).trans (own_cell HO.out h1)
      have HCk := Lib.hid (HC.out wr hbel ps[k] (List.getElem_mem hlt) x (h2.1.ut (Ut.of_below hbel)))
      have HX : Hid (ps[k]? = some ps[k]) := List.getElem?_eq_getElem hlt
      have HA : Hid (ps = ps.take k ++ ps[k] :: ps.drop (k + 1)) := by
        show _ = _
        rw [← List.drop_eq_getElem_cons hlt, List.take_append_drop]
      have HL : Hid ((ps.take k).length = k) := by
        show _ = _
        rw [List.length_take]; omega
      have HN : Hid (∀ q ∈ ps.take k, r q = false) := fun q hq => by
        obtain ⟨i, hiq⟩ := List.getElem?_of_mem hq
        rw [List.getElem?_take] at hiq
        split at hiq
        · rename_i hik; exact hno.out i q hik hiq
        · cases hiq
      obtain ⟨g', c', cur, rfl, _⟩ := h2.1
      clear h2
      clear h1
      generalize ps[k] = p at *
      rcases hr : r p with _ | _
      · have HR := Lib.hid hr
        rw [hr] at HCk
        clear hr
        go_wp2_with fail
        refine HCk.out.mono ?_
        rintro e w1 ⟨rfl, b1⟩
        have hB := hbel.trans (b1.mono hbel.size)
        have HN2 : Hid (∀ i q, i < k + 1 → ps[i]? = some q → r q = false) := fun i q hi hq => by
          rcases Nat.lt_or_ge i k with h | h
          · exact hno.out i q h hq
          · obtain rfl : i = k := by omega
            rw [HX.out] at hq
            cases hq
            exact HR.out
        go_wp2
        go_roundg (ps.length - (k + 1))
        case measure => omega
        case rel => exact ⟨k + 1, by omega, by go_num, hB, HN2.out⟩
      · have HR := Lib.hid hr
        rw [hr] at HCk
        clear hr
        go_wp2_with fail
        refine HCk.out.mono ?_
        rintro e w1 ⟨rfl, b1⟩
        have hB := hbel.trans (b1.mono hbel.size)
        go_wp2
        go_ret
        exact ⟨⟨_, p, _, HA.out, HR.out, HN.out, by rw [HL.out]; rfl⟩, hB⟩
    · obtain rfl : k = ps.length := by omega
      exfalso
      obtain ⟨p, hp, hr⟩ := HE.out
      obtain ⟨i, hip⟩ := List.getElem?_of_mem hp
      rw [hno.out i p (List.getElem?_eq_some_iff.1 hip).1 hip] at hr
      cases hr

end Go.Proofs.YtgpciipemgljcaaGreat.Gp

/-
  What stands behind graph.inOrder: plain facts of what is left and what is free; how parts in memory read as lists of lists. No program's function is walked here. No conditions.
-/
namespace Go.Proofs.YtgpciipemgljcaaGreat.Gp
open Go.RowKit Go.Shelf
set_option linter.unusedVariables false

theorem Rem.same {E : Nat → Nat → Prop} {m : Nat} {T : Nat → Prop} {ps : List (List Nat)} (h : Rem E m T ps) {p q : List Nat} (hp : p ∈ ps) (hq : q ∈ ps) {x : Nat} (h1 : x ∈ p) (h2 : x ∈ q) : p = q := by
  obtain ⟨a, _, _, rfl⟩ := h.isc p hp
  obtain ⟨b, _, _, rfl⟩ := h.isc q hq
  rw [← cmp_same h1, ← cmp_same h2]
theorem Rem.ne {E : Nat → Nat → Prop} {m : Nat} {T : Nat → Prop} {ps : List (List Nat)} (h : Rem E m T ps) {p : List Nat} (hp : p ∈ ps) : p ≠ [] := by
  obtain ⟨a, ha, _, rfl⟩ := h.isc p hp
  intro e
  have := cmp_self (E := E) ha
  rw [e] at this
  simp at this
theorem Rem.inn {E : Nat → Nat → Prop} {m : Nat} {T : Nat → Prop} {ps : List (List Nat)} (h : Rem E m T ps) {p : List Nat} (hp : p ∈ ps) : ∀ x ∈ p, x < m := by
  obtain ⟨a, ha, _, rfl⟩ := h.isc p hp
  exact fun x hx => (mem_cmp.1 hx).1
theorem Rem.plen {E : Nat → Nat → Prop} {m : Nat} {T : Nat → Prop} {ps : List (List Nat)} (h : Rem E m T ps) {p : List Nat} (hp : p ∈ ps) : p.length ≤ m := by
  obtain ⟨a, ha, _, rfl⟩ := h.isc p hp
  exact cmp_len m a
theorem Rem.len {E : Nat → Nat → Prop} {m : Nat} {T : Nat → Prop} {ps : List (List Nat)} (h : Rem E m T ps) : ps.length ≤ m := by
  have hn : (ps.map hd).Nodup := by
    rw [List.Nodup, List.pairwise_map]
    exact h.inc.imp fun k => by omega
  have := hn.length_le_of_subset (l₂ := List.range m) (fun x hx => by
    obtain ⟨p, hp, rfl⟩ := List.mem_map.1 hx
    obtain ⟨a, ha, _, rfl⟩ := h.isc p hp
    exact List.mem_range.2 (mem_cmp.1 (hd_cmp ha)).1)
  simpa using this
theorem hf_pf {n : Nat} {G : Nat → Nat → Bool} {told : Nat → Bool} {hm : Nat → Nat} {ps : List (List Nat)} (h : Rem (Eg n G) n (fun x => told x = true) ps) (ht : ∀ y, y < n → hm y = hd (cmp (Eg n G) n y)) {p : List Nat} (hp : p ∈ ps) :
    (∀ x, x ∈ p → Hf n G told hm (hd p) x n) ↔ Pf (Eg n G) (fun x => told x = true) p := by
  obtain ⟨a, ha, _, rfl⟩ := h.isc p hp
  constructor
  · intro hh x hx y e
    refine (hh x hx y e.2.1 e.2.2).imp_right fun k => ?_
    rw [ht y e.2.1] at k
    rw [← same_hd e.2.1 ha k]
    exact cmp_self e.2.1
  · intro hh x hx y hy hG
    refine (hh x hx y ⟨(mem_cmp.1 hx).1, hy, hG⟩).imp_right fun k => ?_
    rw [ht y hy, cmp_same k]

/-- One part more is told. -/
theorem told_step {n : Nat} {G : Nat → Nat → Bool} {told : Nat → Bool} {A C out : List (List Nat)} {p : List Nat} (hs : Sf (Eg n G) n (fun x => told x = true) out) (h : Rem (Eg n G) n (fun x => told x = true) (A ++ p :: C)) (hp : Pf (Eg n G) (fun x => told x = true) p) (hA : ∀ q, q ∈ A → ¬ Pf (Eg n G) (fun x => told x = true) q) :
    Sf (Eg n G) n (fun x => (told x || decide (x ∈ p)) = true) (out ++ [p]) ∧ Rem (Eg n G) n (fun x => (told x || decide (x ∈ p)) = true) (A ++ C) := by
  obtain ⟨h1, h2, h3⟩ := h.step (eg_in n G) hs.shut hp hA
  have e : (fun x => (told x || decide (x ∈ p)) = true) = (fun x => told x = true ∨ x ∈ p) := by
    funext x
    simp
  rw [e]
  refine ⟨?_, h3⟩
  have := hs.more (eg_in n G) h1
  rw [h2] at this
  exact this
theorem all_told {n : Nat} {G : Nat → Nat → Bool} {told : Nat → Bool} {out : List (List Nat)} (hs : Sf (Eg n G) n (fun x => told x = true) out) (h : Rem (Eg n G) n (fun x => told x = true) []) : Out (Eg n G) n (fun _ => False) out :=
  hs.end_ fun k hk => Classical.byContradiction fun hn => by
    obtain ⟨p, hp, _⟩ := h.all k hk hn
    simp at hp

theorem Po.up {D : Nat} {w w' : World} {base : Nat} {v : Value} {ps : List (List Nat)} (h : Po D w base v ps) (hb : Below w.heap.size w w') : Po D w' base v ps := by
  obtain ⟨hs, ho, hi⟩ := h
  exact ⟨hs, own_same ho fun g hg => hb.block g (ho.lt g hg).2, fun i p hp => by obtain ⟨x, h1, h2⟩ := hi i p hp; exact ⟨x, h1, h2.ut (Ut.of_below hb)⟩⟩
theorem Po.form {D : Nat} {w : World} {base : Nat} {v : Value} {ps : List (List Nat)} (h : Po D w base v ps) : ∃ A c, v = .slice A ps.length c ∧ (0 < ps.length → ∃ g, A = some ⟨g, 0, none⟩) := by
  obtain ⟨hs, ho, _⟩ := h
  rcases ho.2 with ⟨h1, h2⟩ | ⟨g, cap, cur, h1, _⟩
  · exact ⟨none, 0, by rw [h1, h2], fun h => by omega⟩
  · exact ⟨_, cap, h1, fun _ => ⟨g, rfl⟩⟩
theorem ir_sl {w : World} {A : Option Addr} {n c : Nat} {p : List Nat} (h : Ir w (.slice A n c) p) : Sl w w.heap.size A (zs p) := by
  obtain ⟨g, c', cur, hv, hh, hc⟩ := h
  simp only [Value.slice.injEq] at hv
  obtain ⟨rfl, _⟩ := hv
  refine .inr ⟨g, 0, rfl, lt_of_block hh, fun j x hx => ?_⟩
  unfold zs at hx
  rw [List.getElem?_map] at hx
  rcases hp : p[j]? with _ | y
  · rw [hp] at hx; cases hx
  · rw [hp] at hx
    cases hx
    rw [Nat.zero_add, cell_of_row w g j cur 3 _ hh]
    exact hc j y hp
theorem Po.ll {D : Nat} {w : World} {base : Nat} {A : Option Addr} {c : Nat} {ps : List (List Nat)} (h : Po D w base (.slice A ps.length c) ps) : Ll w w.heap.size A (ps.map zs) := by
  obtain ⟨hs, ho, hi⟩ := h
  rcases Nat.eq_zero_or_pos ps.length with h0 | h0
  · exact .inl (by rw [List.length_eq_zero_iff.1 h0]; rfl)
  · obtain ⟨g, c', hv, _, hlt⟩ := ho.form h0
    simp only [Value.slice.injEq] at hv
    obtain ⟨rfl, _, rfl⟩ := hv
    refine .inr ⟨g, 0, rfl, hlt, fun i r hr => ?_⟩
    rw [List.getElem?_map] at hr
    rcases hp : ps[i]? with _ | p
    · rw [hp] at hr; cases hr
    · rw [hp] at hr
      cases hr
      obtain ⟨x, h1, h2⟩ := hi i p hp
      have hc := own_cell ho h1
      rw [Nat.zero_add]
      obtain ⟨g', c'', cur, rfl, _⟩ := id h2.1
      exact ⟨_, c'', by rw [hc, zs_len], ir_sl h2.1⟩

/-- The call gave a list of lists; nothing that was there has turned. -/
def ListsPost (w : World) (out : List (List Nat)) (e : Ending) (w' : World) : Prop := ∃ A c, e = .returned (.slice A out.length c) ∧ Ll w' w'.heap.size A (out.map zs) ∧ Below w.heap.size w w'

end Go.Proofs.YtgpciipemgljcaaGreat.Gp

/-
  How the parts, what was told and the closure's world carry from one world to the next within graph.inOrder. No program's function is walked here. No conditions.
-/
namespace Go.Proofs.YtgpciipemgljcaaGreat.Gp
open Go.RowKit Go.Shelf
set_option linter.unusedVariables false

theorem other_tag {w : World} {a b : Nat} {cs cs' : Array Value} {t t' : TypeId} {f f' : Nat × Nat} (h : w.heap[a]? = some (.cells cs t f)) (h' : w.heap[b]? = some (.cells cs' t' f')) (ht : t ≠ t') : a ≠ b := by
  rintro rfl
  rw [h] at h'
  simp only [Option.some.injEq, Obj.cells.injEq] at h'
  exact ht h'.2.1
theorem Po.off {D : Nat} {w w' : World} {base g : Nat} {v : Value} {ps : List (List Nat)} {cs : Array Value} (h : Po D w base v ps) (ho : Off (· = g) w w') (hg : w.heap[g]? = some (.cells cs 4 (0, 0))) : Po D w' base v ps := by
  obtain ⟨hs, h1, h2⟩ := h
  exact ⟨hs, own_same h1 fun r hr => ho.block r (h1.lt r hr).2 (fun e => own_tag h1 hg (by decide) (by rw [hr, e])), fun i p hp => by obtain ⟨x, k1, k2⟩ := h2 i p hp; exact ⟨x, k1, k2.ut (Ut.of_off ho hg (by decide))⟩⟩
theorem own_row {w : World} {base : Nat} {e : TypeId} {v : Value} {n : Nat} {xs : List Value} (h : w.ownsRow base e 1 v n xs) : ∀ r, v.ownBlock = some r → ∃ cs, w.heap[r]? = some (.cells cs e (0, 0)) := by
  rcases h.2 with ⟨rfl, _⟩ | ⟨g, cap, cur, rfl, _, hh, _⟩
  · intro r hr; simp [Value.ownBlock] at hr
  · intro r hr
    have : r = g := by simpa [Value.ownBlock] using hr.symm
    exact ⟨cur, by rw [this]; exact hh⟩
theorem Ut.of_grown {w w' : World} {row : Option Nat} (hg : w.grownBy w' row) (hr : ∀ r, row = some r → ∃ cs, w.heap[r]? = some (.cells cs 26 (0, 0))) : Ut 3 w w' := fun b cs hb => (hg.block b (lt_of_block hb) (fun e => by
  obtain ⟨cs', h⟩ := hr b e.symm
  exact other_tag hb h (by decide) rfl)).trans hb
/-- A part more is told: the parts stay. -/
theorem Po.grown {D : Nat} {w w' : World} {base : Nat} {v : Value} {ps : List (List Nat)} {row : Option Nat} (h : Po D w base v ps) (hg : w.grownBy w' row) (hr : ∀ r, row = some r → ∃ cs, w.heap[r]? = some (.cells cs 26 (0, 0))) (hne : ∀ r, v.ownBlock = some r → some r ≠ row) : Po D w' base v ps := by
  obtain ⟨hs, h1, h2⟩ := h
  exact ⟨hs, own_same h1 fun r k => hg.block r (h1.lt r k).2 (hne r k), fun i p hp => by obtain ⟨x, k1, k2⟩ := h2 i p hp; exact ⟨x, k1, k2.ut (Ut.of_grown hg hr)⟩⟩
/-- A part more is told: it lies behind those that were told. -/
theorem pr_more {D : Nat} {w w' : World} {base g c n : Nat} {h : Value} {hs : List Value} {p : List Nat} {out : List (List Nat)} {row : Option Nat} (hi : ∀ (i : Nat) (p : List Nat), out[i]? = some p → ∃ h, hs[i]? = some h ∧ Jr D w h p) (hl : hs.length = out.length) (hp : Jr D w h p) (hg : w.grownBy w' row) (hr : ∀ r, row = some r → ∃ cs, w.heap[r]? = some (.cells cs 26 (0, 0)))
    (ho : w'.ownsRow base 26 1 (.slice (some ⟨g, 0, none⟩) n c) n (hs ++ [h])) (hn : n = out.length + 1) : Po D w' base (.slice (some ⟨g, 0, none⟩) n c) (out ++ [p]) := by
  refine ⟨hs ++ [h], by rw [List.length_append, List.length_singleton, ← hn]; exact ho, fun i q hq => ?_⟩
  have hu := Ut.of_grown hg hr
  rcases Nat.lt_or_ge i out.length with hi' | hi'
  · rw [List.getElem?_append_left hi'] at hq
    obtain ⟨x, h1, h2⟩ := hi i q hq
    exact ⟨x, by rw [List.getElem?_append_left (by omega)]; exact h1, h2.ut hu⟩
  · rw [List.getElem?_append_right hi'] at hq
    have hi0 : i - out.length = 0 := by
      have := (List.getElem?_eq_some_iff.1 hq).1
      simp at this; omega
    rw [hi0] at hq
    simp at hq
    subst hq
    exact ⟨_, by rw [List.getElem?_append_right (by omega), hl, hi0]; rfl, hp.ut hu⟩
/-- The parts lose one; what was told stays. -/
theorem Po.cut {D : Nat} {w w' : World} {base g : Nat} {v : Value} {ps : List (List Nat)} {cs : Array Value} (h : Po D w base v ps) (ho : Off (· = g) w w') (hg : w.heap[g]? = some (.cells cs 26 (0, 0))) (hlt : g < base) : Po D w' base v ps := by
  obtain ⟨hs, h1, h2⟩ := h
  exact ⟨hs, own_same h1 fun r hr => ho.block r (h1.lt r hr).2 (by have := (h1.lt r hr).1; omega), fun i p hp => by obtain ⟨x, k1, k2⟩ := h2 i p hp; exact ⟨x, k1, k2.ut (Ut.of_off ho hg (by decide))⟩⟩

section
variable {w w' : World} {n b : Nat} {R : Nat → Nat} {G : Nat → Nat → Bool} {gb tb hb tr hr : Nat} {told : Nat → Bool} {hm : Nat → Nat}
theorem Fw.keep {v : World} {told0 : Nat → Bool} (h0 : Fw v n b R G gb tb hb tr hr told0 hm) (h : Fw w n b R G gb tb hb tr hr told hm) (k : Below v.heap.size w w') : Fw w' n b R G gb tb hb tr hr told hm :=
  ⟨(k.block gb h0.bg.lt).trans h.bg, (k.block tb h0.bt.lt).trans h.bt, (k.block hb h0.bh.lt).trans h.bh, h.gr.on k h0.gr.lt (fun i hi => h0.gr.rlt hi), Tb.on h.rt k (Tb.lt h0.rt), Tb.on h.rh k h0.rh.lt⟩
theorem Fw.off {g : Nat} {cs : Array Value} (h : Fw w n b R G gb tb hb tr hr told hm) (ho : Off (· = g) w w') (hg : w.heap[g]? = some (.cells cs 26 (0, 0))) (hne : hb ≠ g) : Fw w' n b R G gb tb hb tr hr told hm :=
  ⟨(ho.block gb h.bg.lt (other_tag h.bg hg (by decide))).trans h.bg, (ho.block tb h.bt.lt (other_tag h.bt hg (by decide))).trans h.bt, (ho.block hb h.bh.lt hne).trans h.bh,
    h.gr.same (ho.block b h.gr.lt (other_tag h.gr.hdr hg (by decide))) (fun i hi => ho.block (R i) (h.gr.rlt hi) (other_tag (h.gr.row i hi) hg (by decide))),
    Tb.same h.rt (ho.block tr (Tb.lt h.rt) (other_tag h.rt hg (by decide))), Tb.same h.rh (ho.block hr h.rh.lt (other_tag h.rh hg (by decide)))⟩
theorem Fw.mark (h : Fw w n b R G gb tb hb tr hr told hm) (hR : ∀ i, i < n → R i ≠ tr) (x : Nat) : Fw (w.setCell ⟨tr, x, none⟩ (.bool true)) n b R G gb tb hb tr hr (upd told x) hm := by
  have e : w.heap[tr]? = some (.cells (tab (fun j => .bool (told j)) n) 4 (0, 0)) := h.rt
  exact ⟨(Below.heap_setCell w ⟨tr, x, none⟩ _ gb (other_tag h.bg e (by decide))).trans h.bg, (Below.heap_setCell w ⟨tr, x, none⟩ _ tb (other_tag h.bt e (by decide))).trans h.bt, (Below.heap_setCell w ⟨tr, x, none⟩ _ hb (other_tag h.bh e (by decide))).trans h.bh,
    h.gr.other (other_tag h.gr.hdr e (by decide)) hR _, h.rt.upd x, Tb.other h.rh (other_tag h.rh e (by decide)) _⟩
theorem Fw.congr {told' : Nat → Bool} (h : Fw w n b R G gb tb hb tr hr told hm) (e : ∀ x, x < n → told x = told' x) : Fw w n b R G gb tb hb tr hr told' hm := ⟨h.bg, h.bt, h.bh, h.gr, h.rt.congr e, h.rh⟩
theorem Fw.tcell (h : Fw w n b R G gb tb hb tr hr told hm) {x : Nat} (hx : x < n) : w.cell? ⟨tr, x, none⟩ = some (.bool (told x)) := h.rt.cell hx
theorem Fw.tfree (h : Fw w n b R G gb tb hb tr hr told hm) (x : Nat) : w.frozen? ⟨tr, x, none⟩ = false := Tb.free h.rt x
end
theorem upd_take (told : Nat → Bool) (p : List Nat) (j : Nat) (hj : j < p.length) (x : Nat) : upd (fun x => told x || decide (x ∈ p.take j)) p[j] x = (told x || decide (x ∈ p.take (j + 1))) := by
  rw [List.take_succ_eq_append_getElem hj]
  simp only [upd, List.mem_append, List.mem_singleton, Bool.decide_or, Bool.or_assoc]
  congr 2
theorem take_all (told : Nat → Bool) (p : List Nat) : (fun x => told x || decide (x ∈ p.take p.length)) = fun x => told x || decide (x ∈ p) := by rw [List.take_length]
/-- Whether a part may be told, as a bool. -/
noncomputable def fb (n : Nat) (G : Nat → Nat → Bool) (told : Nat → Bool) (hm : Nat → Nat) (p : List Nat) : Bool := @decide (∀ x, x ∈ p → Hf n G told hm (hd p) x n) (Classical.propDecidable _)
theorem fb_iff {n : Nat} {G : Nat → Nat → Bool} {told : Nat → Bool} {hm : Nat → Nat} {p : List Nat} : fb n G told hm p = true ↔ ∀ x, x ∈ p → Hf n G told hm (hd p) x n := by simp [fb]

end Go.Proofs.YtgpciipemgljcaaGreat.Gp

/-
  The walk of graph.inOrder once more: what it gives lies in rows whose types are known. Conditions: at most 1000 things; the parts are the components, by their first things.
-/
namespace Go.Proofs.YtgpciipemgljcaaGreat.Gp
open Go.RowKit Go.Shelf
set_option linter.unusedVariables false

set_option maxRecDepth 100000 in
set_option maxHeartbeats 4000000 in
theorem inOrderP_any (b : Nat) (R : Nat → Nat) (n : Nat) (G : Nat → Nat → Bool) (hn : n ≤ 1000) (base : Nat) (v : Value) (ps : List (List Nat)) (hR : Rem (Eg n G) n (fun _ => False) ps) (w : World) (hG : Gr w b R n G) (hP : Pr w base v ps) :
    Calls Tryz.prog 53 #[.slice (some ⟨b, 0, none⟩) n n, v] w (fun e w' => ∃ out A c, e = .returned (.slice A out.length c) ∧ Out (Eg n G) n (fun _ => False) out ∧ Ll w' w'.heap.size A (out.map zs) ∧ Off (fun r => v.ownBlock = some r) w w' ∧ ∃ bs, Po base w' bs (.slice A out.length c) out) := by
  obtain ⟨A0, c0, rfl, hA0⟩ := hP.form
  obtain ⟨j0, hj, hy0, hy1, hy2⟩ := info_parts info4
  obtain ⟨i0, hi, hz0, hz1, hz2⟩ := info_parts info3
  obtain ⟨i9, hi9, hz90, hz91, hz92⟩ := info_parts info29
  have hpl := hR.len
  have HR := Lib.hid hR
  have HG := Lib.hid hG
  have HP := Lib.hid hP
  have HA0 := Lib.hid hA0
  clear hR hG hP hA0
  have Ba : Below w.heap.size w (w.alloc (.cells #[.slice (some ⟨b, 0, none⟩) n n] 83)) := (Below.refl _ _).alloc (Nat.le_refl _) _
  have Xa := Boxed.new w 83 (.slice (some ⟨b, 0, none⟩) n n)
  have ca := Xa.cell
  go_enter Tryz.func53, Tryz.ntmps53
  go_wp2_with (first | (at_make; refine wpList_make_full _ rfl _ _ 26 rfl (w.heap.size + 1) 3 i0 (.int .i64 0) 1 Tryz.underlying26 hi hz0 hz1 _ _ _ _ n rfl rfl rfl rfl (by rw [hz2]; omega) (by unfold maxLen; omega) (by simp) ?_; intro w2 hown2 hgrow2))
  simp only [World.size_alloc] at hown2
  have hz2w := (hown2.lt (w.heap.size + 1) rfl).2
  have X2 : Boxed w2 w.heap.size 83 (.slice (some ⟨b, 0, none⟩) n n) := Xa.kept hgrow2 (by simp)
  have T2 : Tb w2 (w.heap.size + 1) 3 (fun _ => .int .i64 0) n := tb_made hown2 rfl
  have B2 : Below w.heap.size w w2 := Ba.grown hgrow2 (by simp) (by simp)
  have B3 : Below w.heap.size w (w2.alloc (.cells #[.slice (some ⟨w.heap.size + 1, 0, none⟩) n n] 26)) := B2.alloc B2.size _
  have X3 := X2.alloc (.cells #[.slice (some ⟨w.heap.size + 1, 0, none⟩) n n] 26)
  have H3 := Boxed.new w2 26 (.slice (some ⟨w.heap.size + 1, 0, none⟩) n n)
  have T3 : Tb (w2.alloc (.cells #[.slice (some ⟨w.heap.size + 1, 0, none⟩) n n] 26)) (w.heap.size + 1) 3 (fun x => .int .i64 (((fun _ => 0 : Nat → Nat) x : Nat) : Int)) n := (T2.congr fun _ _ => rfl).old _
  clear hown2 hgrow2 X2 T2 B2 Ba Xa ca
  revert hz2w B3 X3 H3 T3
  generalize w2.alloc (.cells #[.slice (some ⟨w.heap.size + 1, 0, none⟩) n n] 26) = W3
  generalize hhb : w2.heap.size = hb
  clear hhb
  intro hz2w B3 X3 H3 T3
  go_loopg [21] ps.length (fun q t W => ∃ (k : Nat) (hm : Nat → Nat), k + q = ps.length ∧ t = .int .i64 (k : Int) ∧ Hid (Below w.heap.size w W) ∧ Hid (Boxed W w.heap.size 83 (.slice (some ⟨b, 0, none⟩) n n)) ∧ Hid (Boxed W hb 26 (.slice (some ⟨w.heap.size + 1, 0, none⟩) n n)) ∧ Hid (Tb W (w.heap.size + 1) 3 (fun x => .int .i64 (hm x : Int)) n) ∧ Hid (∀ i p x, i < k → ps[i]? = some p → x ∈ p → hm x = hd p))
  case atStart => exact ⟨0, fun _ => 0, by omega, rfl, B3, X3, H3, T3, fun i p x h => by omega⟩
  case round =>
    obtain ⟨k, hm, hk, rfl, hB, hX, hH, hT, hV⟩ := hrel
    clear B3 X3 H3 T3
    by_cases hlt : k < ps.length
    · have hki : (k : Int) < (ps.length : Int) := by omega
      have hk0 : (0 : Int) ≤ (k : Int) := by omega
      obtain ⟨g0, rfl⟩ := HA0.out (by omega)
      obtain ⟨hs, ho, hi'⟩ := HP.out
      obtain ⟨x, h1, h2⟩ := hi' k ps[k] (List.getElem?_eq_getElem hlt)
      have hgl0 := (ho.lt g0 rfl).2
      have cx : wr.cell? ⟨g0, k, none⟩ = some x := (World.cell?_of_block (a := ⟨g0, k, none⟩) (hB.out.block g0 hgl0)).trans (own_cell ho h1)
      have hpm : ps[k] ∈ ps := List.getElem_mem hlt
      have HX : Hid (ps[k]? = some ps[k]) := List.getElem?_eq_getElem hlt
      generalize ps[k] = p at *
      have hpn := HR.out.inn hpm
      have hpne := HR.out.ne hpm
      have hpl2 := HR.out.plen hpm
      have h2k := Lib.hid h2.1
      obtain ⟨g', c', cur, rfl, _⟩ := id h2.1
      clear ho hi' h1 h2
      have Hpn := Lib.hid hpn
      clear hpn
      go_wp2
      go_loopg [27] p.length (fun q t W => ∃ (j : Nat) (hm : Nat → Nat), j + q = p.length ∧ t = .int .i64 (j : Int) ∧ Hid (Below w.heap.size w W) ∧ Hid (Boxed W w.heap.size 83 (.slice (some ⟨b, 0, none⟩) n n)) ∧ Hid (Boxed W hb 26 (.slice (some ⟨w.heap.size + 1, 0, none⟩) n n)) ∧ Hid (Tb W (w.heap.size + 1) 3 (fun x => .int .i64 (hm x : Int)) n) ∧ Hid (∀ i p x, i < k → ps[i]? = some p → x ∈ p → hm x = hd p) ∧ Hid (∀ i x, i < j → p[i]? = some x → hm x = hd p))
      case atStart => exact ⟨0, hm, by omega, rfl, hB.out, hX.out, hH.out, hT.out, hV.out, fun i x h => by omega⟩
      case round =>
        obtain ⟨j, hm2, hj, rfl, hB2, hX2, hH2, hT2, hV2, hW2⟩ := hrel
        have hI2 := Lib.hid (h2k.out.ut (Ut.of_below hB2.out))
        by_cases hjt : j < p.length
        · have hji : (j : Int) < (p.length : Int) := by omega
          have hj0 : (0 : Int) ≤ (j : Int) := by omega
          have hpi : (0 : Int) < (p.length : Int) := by omega
          have ct := hI2.out.cell (List.getElem?_eq_getElem hjt)
          have htn := Hpn.out p[j] (List.getElem_mem hjt)
          have HJ : Hid (p[j]? = some p[j]) := List.getElem?_eq_getElem hjt
          have hmem : p[j] ∈ p := List.getElem_mem hjt
          generalize p[j] = t at *
          have hti : (t : Int) < (n : Int) := by omega
          have ht0 : (0 : Int) ≤ (t : Int) := by omega
          have c0 := hI2.out.cell (j := 0) (x := hd p) (by cases p <;> simp_all [hd])
          have ch := hH2.out.cell
          have cr := hT2.out.cell htn
          have fr := hT2.out.free t
          have E1 : Tb (wr.setCell ⟨w.heap.size + 1, t, none⟩ (.int .i64 (hd p : Int))) (w.heap.size + 1) 3 (fun x => .int .i64 (((fun x => if x = t then hd p else hm2 x) x : Nat) : Int)) n := (hT2.out.set t _).congr fun x _ => by
            by_cases e : x = t <;> simp [e]
          have F1 : Below w.heap.size w (wr.setCell ⟨w.heap.size + 1, t, none⟩ (.int .i64 (hd p : Int))) := hB2.out.setCell (by show w.heap.size ≤ w.heap.size + 1; omega) _
          have oth : ∀ r, r ≠ w.heap.size + 1 → (wr.setCell ⟨w.heap.size + 1, t, none⟩ (.int .i64 (hd p : Int))).heap[r]? = wr.heap[r]? := fun r h => Below.heap_setCell _ _ _ r h
          have X1 : Boxed (wr.setCell ⟨w.heap.size + 1, t, none⟩ (.int .i64 (hd p : Int))) w.heap.size 83 (.slice (some ⟨b, 0, none⟩) n n) := (oth _ (by omega)).trans hX2.out
          have H1 : Boxed (wr.setCell ⟨w.heap.size + 1, t, none⟩ (.int .i64 (hd p : Int))) hb 26 (.slice (some ⟨w.heap.size + 1, 0, none⟩) n n) := (oth _ (by omega)).trans hH2.out
          have V1 : Hid (∀ i q x, i < k → ps[i]? = some q → x ∈ q → (if x = t then hd p else hm2 x) = hd q) := fun i q x hi hq hx => by
            by_cases e : x = t
            · subst e
              rw [if_pos rfl, HR.out.same hpm (List.mem_of_getElem? hq) hmem hx]
            · rw [if_neg e]; exact hV2.out i q x hi hq hx
          have V2 : Hid (∀ i x, i < j + 1 → p[i]? = some x → (if x = t then hd p else hm2 x) = hd p) := fun i x hi hx => by
            by_cases e : x = t
            · rw [if_pos e]
            · rw [if_neg e]
              rcases Nat.lt_or_ge i j with h | h
              · exact hW2.out i x h hx
              · obtain rfl : i = j := by omega
                rw [HJ.out] at hx
                cases hx
                exact absurd rfl e
          have HE1 := Lib.hid E1
          have HF1 := Lib.hid F1
          have HX1 := Lib.hid X1
          have HH1 := Lib.hid H1
          clear E1 F1 X1 H1 oth
          generalize (hd p : Int) = u at *
          go_wp2
          go_region
          go_wp2
          go_roundg (p.length - (j + 1))
          case measure => omega
          case rel => exact ⟨j + 1, _, by omega, by go_num, HF1.out.drew, HX1.out, HH1.out, HE1.out, V1.out, V2.out⟩
        · obtain rfl : j = p.length := by omega
          have V1 : Hid (∀ i q x, i < k + 1 → ps[i]? = some q → x ∈ q → hm2 x = hd q) := fun i q x hi hq hx => by
            rcases Nat.lt_or_ge i k with h | h
            · exact hV2.out i q x h hq hx
            · obtain rfl : i = k := by omega
              rw [HX.out] at hq
              cases hq
              obtain ⟨y, hy⟩ := List.getElem?_of_mem hx
              exact hW2.out y x (List.getElem?_eq_some_iff.1 hy).1 hy
          go_wp2
          go_roundg (ps.length - (k + 1))
          case measure => omega
          case rel => exact ⟨k + 1, hm2, by omega, by go_num, hB2.out, hX2.out, hH2.out, hT2.out, V1.out⟩
    · obtain rfl : k = ps.length := by omega
      have hmT : Hid (∀ y, y < n → hm y = hd (cmp (Eg n G) n y)) := fun y hy => by
        obtain ⟨p, hp, hyp⟩ := HR.out.all y hy (fun f => f)
        obtain ⟨i, hip⟩ := List.getElem?_of_mem hp
        rw [hV.out i p y (List.getElem?_eq_some_iff.1 hip).1 hip hyp]
        obtain ⟨a, _, _, rfl⟩ := HR.out.isc p hp
        rw [cmp_same hyp]
      have cX := hX.out.cell
      go_wp2_with (first | (at_make; refine wpList_make_full _ rfl _ _ 41 rfl wr.heap.size 4 j0 (.bool false) 1 (by kernel_rfl) hj hy0 hy1 _ _ _ _ n rfl rfl rfl rfl (by rw [hy2]; omega) (by unfold maxLen; omega) (Nat.le_refl _) ?_; intro w4 hown4 hgrow4))
      have hRt : ∀ i, i < n → R i ≠ wr.heap.size := fun i hi => by
        have := HG.out.rlt hi
        have := hH.out.lt
        omega
      have B4 : Below w.heap.size w (w4.alloc (.cells #[.slice (some ⟨wr.heap.size, 0, none⟩) n n] 41)) := (hB.out.grown hgrow4 hB.out.size (by simp)).alloc (Nat.le_trans hB.out.size hgrow4.size) _
      have F4 : Fw (w4.alloc (.cells #[.slice (some ⟨wr.heap.size, 0, none⟩) n n] 41)) n b R G w.heap.size w4.heap.size hb wr.heap.size (w.heap.size + 1) (fun _ => false) hm :=
        ⟨(hX.out.kept hgrow4 (by simp)).alloc _, Boxed.new w4 41 _, (hH.out.kept hgrow4 (by simp)).alloc _, HG.out.up B4, Tb.old (tb_made hown4 rfl) _, Tb.old (Tb.same hT.out (hgrow4.block _ hT.out.lt (by simp))) _⟩
      have hhbl := hH.out.lt
      have hsz4 := hgrow4.size
      clear hown4 hgrow4 hX hH hT hV hB cX
      revert B4 F4
      generalize w4.alloc (.cells #[.slice (some ⟨wr.heap.size, 0, none⟩) n n] 41) = W5
      generalize hte : w4.heap.size = tb at *
      generalize htr : wr.heap.size = tr at *
      clear hte htr
      intro B4 F4
      have HB4 := Lib.hid B4
      have HF4 := Lib.hid F4
      have HRt := Lib.hid hRt
      clear B4 F4 hRt
      go_loopg [1, 12] ps.length (fun q pv ov W => ∃ (ps' : List (List Nat)) (told : Nat → Bool) (out : List (List Nat)), pv = .slice A0 ps'.length c0 ∧ Hid (ps'.length = q) ∧ Hid (out.length + ps'.length ≤ n) ∧ Hid (Sf (Eg n G) n (fun x => told x = true) out) ∧ Hid (Rem (Eg n G) n (fun x => told x = true) ps') ∧ Hid (Pr W base (.slice A0 ps'.length c0) ps') ∧ Hid (Po base W W5.heap.size ov out) ∧ Hid (Fw W n b R G w.heap.size tb hb tr (w.heap.size + 1) told hm) ∧ Hid (Off (fun r => (Value.slice A0 ps.length c0).ownBlock = some r) w W) ∧ Hid (W5.heap.size ≤ W.heap.size))
      case atStart =>
        refine ⟨ps, fun _ => false, [], rfl, rfl, by show _ ≤ n; simp; exact hpl, ?_, ?_, ?_, ?_, HF4.out, ?_, Nat.le_refl _⟩
        · have := Sf.start (E := Eg n G) (m := n)
          exact this.congr fun x => by simp
        · have e : (fun x : Nat => (fun _ => false : Nat → Bool) x = true) = fun _ => False := by funext x; simp
          show Rem (Eg n G) n (fun x : Nat => (fun _ => false : Nat → Bool) x = true) ps
          rw [e]; exact HR.out
        · exact HP.out.up HB4.out
        · exact ⟨[], World.ownsRow_nil _ _ _ _, fun i p h => by simp at h⟩
        · exact Off.of_below HB4.out
      case round =>
        obtain ⟨ps', told, out, rfl, hq, hol, hSf, hRem, hPr, hPo, hF, hOff, hsz⟩ := hrel
        by_cases hlt : 0 < ps'.length
        · obtain ⟨A1, c1, hv1, hg1⟩ := hPr.out.form
          obtain ⟨g, hg⟩ := hg1 hlt
          simp only [Value.slice.injEq] at hv1
          obtain ⟨e1, _, e2⟩ := hv1
          rw [hg] at e1
          subst e1
          clear hg hg1 e2
          have hne : ps' ≠ [] := List.length_pos_iff.1 hlt
          have hki : (0 : Int) < (ps'.length : Int) := by omega
          obtain ⟨pf, hpfm, hpf⟩ := hRem.out.free (eg_in n G) hSf.out.shut hne
          have hex := (fb_iff (n := n) (G := G) (told := told) (hm := hm)).2 ((hf_pf hRem.out hmT.out hpfm).2 hpf)
          have hps1000 : ps'.length ≤ 1000 := by have := hol.out; omega
          have HI := Lib.hid (fidx_any w.heap.size tb hb base g c0 ps' (fb n G told hm) hps1000 wr hPr.out (fun W hW p hp h hir => free_any n b R G w.heap.size tb hb tr (w.heap.size + 1) told hm hn h p (hRem.out.ne hp) (hRem.out.inn hp) (by have := hRem.out.plen hp; omega) (fb n G told hm p) fb_iff W (hF.out.up hW) hir) ⟨pf, hpfm, hex⟩)
          clear hpfm hpf hex hne
          go_wp2_with fail
          refine HI.out.mono ?_
          rintro e w1 ⟨⟨A, p, C, rfl, hrp, hrA, rfl⟩, b1⟩
          have hpm : p ∈ A ++ p :: C := by simp
          have hpf : Pf (Eg n G) (fun x => told x = true) p := (hf_pf hRem.out hmT.out hpm).1 (fb_iff.1 hrp)
          have hAf : ∀ q, q ∈ A → ¬ Pf (Eg n G) (fun x => told x = true) q := fun q hq h => by
            have h1 := hrA q hq
            rw [fb_iff.2 ((hf_pf hRem.out hmT.out (by simp [hq])).2 h)] at h1
            cases h1
          have HT := Lib.hid (told_step hSf.out hRem.out hpf hAf)
          have HP1 := Lib.hid (hPr.out.up b1)
          have HO1 := Lib.hid (hPo.out.up b1)
          have HF1 := Lib.hid (hF.out.up b1)
          have Hoff1 := Lib.hid (hOff.out.then b1)
          have Hsz1 : Hid (W5.heap.size ≤ w1.heap.size) := Nat.le_trans hsz.out b1.size
          have Hpn := Lib.hid (hRem.out.inn hpm)
          have hpl3 : p.length ≤ 1000 := by have := hRem.out.plen hpm; omega
          have HD := Lib.hid (fun W => delete_any base g c0 A C p W)
          obtain ⟨x, hx⟩ : ∃ x, w1.cell? ⟨g, A.length, none⟩ = some x ∧ Jr base w1 x p := by
            obtain ⟨hs, ho, hi'⟩ := HP1.out
            obtain ⟨x, h1, h2⟩ := hi' A.length p (by simp)
            exact ⟨x, own_cell ho h1, h2⟩
          obtain ⟨hs2, ho2, hi2⟩ := HO1.out
          have hgrow : ∃ cs, w1.heap[g]? = some (.cells cs 26 (0, 0)) := HP1.out.row
          have hgw : g < w.heap.size := by
            obtain ⟨hs, ho, _⟩ := HP.out
            exact (ho.lt g rfl).2
          have Hgrow := Lib.hid hgrow
          have Hx := Lib.hid hx.2
          have cx := hx.1
          obtain ⟨g', c', cur, rfl, _⟩ := hx.2.1
          have hALc : (A ++ p :: C).length = A.length + C.length + 1 := by simp; omega
          have hkLL : A.length < (A ++ p :: C).length := by omega
          clear hALc
          clear hx HI hRem hSf hPr hF hOff hsz hPo b1 hrp hrA hpf hAf hgrow hpm
          generalize hL : (A ++ p :: C).length = L at *
          generalize hka : A.length = ka at *
          have hkL : (ka : Int) < (L : Int) := by omega
          have hk0 : (0 : Int) ≤ (ka : Int) := by omega
          have HL := Lib.hid hL
          have HKA := Lib.hid hka
          clear hL hka
          go_wp2
          go_loopg [54] p.length (fun q t W => ∃ (j : Nat), j + q = p.length ∧ t = .int .i64 (j : Int) ∧ Hid (Fw W n b R G w.heap.size tb hb tr (w.heap.size + 1) (fun x => told x || decide (x ∈ p.take j)) hm) ∧ Hid (Off (· = tr) w1 W))
          case atStart => exact ⟨0, by omega, rfl, HF1.out.congr fun x _ => by simp, Off.refl _ _⟩
          case round =>
            obtain ⟨j, hj, rfl, hF, hO⟩ := hrel
            have tr1 : w1.heap[tr]? = some (.cells (tab (fun j => .bool (told j)) n) 4 (0, 0)) := HF1.out.rt
            by_cases hjt : j < p.length
            · have hji : (j : Int) < (p.length : Int) := by omega
              have hj0 : (0 : Int) ≤ (j : Int) := by omega
              have ct := (Hx.out.ut (Ut.of_off hO.out tr1 (by decide))).1.cell (List.getElem?_eq_getElem hjt)
              have hyn := Hpn.out p[j] (List.getElem_mem hjt)
              have HM := Lib.hid (upd_take told p j hjt)
              generalize p[j] = y at *
              have hyi : (y : Int) < (n : Int) := by omega
              have hy00 : (0 : Int) ≤ (y : Int) := by omega
              have c1 := hF.out.bt.cell
              have c2 := hF.out.tcell hyn
              have c3 := hF.out.tfree y
              have HF2 := Lib.hid ((hF.out.mark HRt.out y).congr fun x _ => HM.out x)
              have HO2 := Lib.hid (hO.out.set (p := ⟨tr, y, none⟩) (.inl rfl) (.bool true))
              clear tr1
              go_wp2
              go_roundg (p.length - (j + 1))
              case measure => omega
              case rel => exact ⟨j + 1, by omega, by go_num, HF2.out, HO2.out⟩
            · obtain rfl : j = p.length := by omega
              have HF2 : Hid (Fw wr n b R G w.heap.size tb hb tr (w.heap.size + 1) (fun x => told x || decide (x ∈ p)) hm) := hF.out.congr fun x _ => by rw [List.take_length]
              have HP2 := Lib.hid (HP1.out.off hO.out tr1)
              have Hx2 := Lib.hid (Hx.out.ut (Ut.of_off hO.out tr1 (by decide)))
              have hu2 := Ut.of_off hO.out tr1 (t := 3) (by decide)
              have ho3 := own_same (w' := wr) ho2 fun r hr => hO.out.block r (ho2.lt r hr).2 (fun e => own_tag ho2 tr1 (by decide) (by rw [hr, e]))
              have hgt : g ≠ tr := by
                obtain ⟨cs, h⟩ := Hgrow.out
                exact other_tag h tr1 (by decide)
              have cx2 : wr.cell? ⟨g, ka, none⟩ = some (.slice (some ⟨g', 0, none⟩) p.length c') := by
                obtain ⟨cs, h⟩ := Hgrow.out
                exact (World.cell?_of_block (a := ⟨g, ka, none⟩) (hO.out.block g (lt_of_block h) hgt)).trans cx
              have Hg2 : Hid (∃ cs, wr.heap[g]? = some (.cells cs 26 (0, 0))) := by
                obtain ⟨cs, h⟩ := Hgrow.out
                exact ⟨cs, (hO.out.block g (lt_of_block h) hgt).trans h⟩
              have Hoff2 := Lib.hid (Hoff1.out.trans hO.out (fun r hr => .inr (by rw [hr]; have := HB4.out.size; omega)))
              have Hsz2 : Hid (W5.heap.size ≤ wr.heap.size) := Nat.le_trans Hsz1.out hO.out.size
              have HOr := Lib.hid (own_same (w' := wr.alloc (.cells #[.slice (some ⟨g', 0, none⟩) p.length c'] 26)) ho3 fun r hr => heap_alloc_old _ _ (ho3.lt r hr).2)
              have HN := Lib.hid (heap_alloc_new wr (.cells #[.slice (some ⟨g', 0, none⟩) p.length c'] 26))
              have Hlt3 := Lib.hid ho3.lt
              have Hi2 : Hid (∀ (i : Nat) (p : List Nat), out[i]? = some p → ∃ h, hs2[i]? = some h ∧ Jr base wr h p) := fun i p hp => by
                obtain ⟨x, h1, h2⟩ := hi2 i p hp
                exact ⟨x, h1, h2.ut hu2⟩
              have Hho3 := Lib.hid ho3
              have hol2 : out.length ≤ 1000 := by have := hol.out; omega
              have hsz2 : W5.heap.size ≤ wr.heap.size := Hsz2.out
              clear cx ho2 hi2 hu2 ho3 tr1 hF hO Hx HP1 HO1 HF1 Hoff1 Hsz1
              go_wp2_with (at_builtin; refine wpList_append_lies _ rfl _ _ 54 rfl W5.heap.size 26 i9 (.slice none 0 0) 1 24 Tryz.underlying54 hi9 hz90 hz91 hz92 rfl (by decide) u12 out.length hs2 rfl HOr.out ⟨wr.heap.size, 0, none⟩ 1 1 [.slice (some ⟨g', 0, none⟩) p.length c'] rfl rfl (World.news_of_block HN.out) (by intro u hu; simp at hu; subst hu; rfl) (by decide) (by unfold maxLen; omega) (by omega) (by simp; omega) (wr.heap.size + 1) (by simp) ?_; intro g9 c9 w9 hown9 hgrow9 hat9 hlt9)
              have b0 : Below wr.heap.size wr (wr.alloc (.cells #[.slice (some ⟨g', 0, none⟩) p.length c'] 26)) := (Below.refl _ _).alloc (Nat.le_refl _) _
              have hr9 := own_row HOr.out
              have HP9 := Lib.hid ((HP2.out.up b0).grown hgrow9 hr9 (fun r hr e => by
                have h1 := (Hlt3.out r e.symm).1
                have h2 : r = g := by simpa [Value.ownBlock] using hr.symm
                have := HB4.out.size
                omega))
              have HO9 := Lib.hid (pr_more (fun i q hq => by obtain ⟨y, k1, k2⟩ := Hi2.out i q hq; exact ⟨y, k1, k2.ut (Ut.of_below b0)⟩) (by have := Hho3.out.1; omega) (Hx2.out.ut (Ut.of_below b0)) hgrow9 hr9 hown9 rfl)
              have HF9 := Lib.hid (HF4.out.keep HF2.out (((Below.refl W5.heap.size wr).alloc hsz2 (.cells #[.slice (some ⟨g', 0, none⟩) p.length c'] 26)).grown hgrow9 (by simp; omega) (fun r hr => (Hlt3.out r hr).1)))
              have Hoff9 := Lib.hid ((Hoff2.out.alloc (.cells #[.slice (some ⟨g', 0, none⟩) p.length c'] 26)).grown hgrow9 (fun r hr => .inr (by have := (Hlt3.out r hr).1; have := HB4.out.size; omega)))
              have Hsz9 : Hid (W5.heap.size ≤ w9.heap.size) := by
                have := hgrow9.size
                simp only [World.size_alloc] at this
                show _ ≤ _
                omega
              have Hg9 := Lib.hid HP9.out.row
              have HD9 := Lib.hid (HD.out w9 HP9.out)
              have hhbg : hb ≠ g := by omega
              have hg5 : g < W5.heap.size := by have := HB4.out.size; omega
              clear b0 hr9 hown9 hgrow9 hat9
              go_wp2_with fail
              refine HD9.out.mono ?_
              rintro e w10 ⟨rfl, hP10, hO10⟩
              have HP10 := Lib.hid hP10
              have HO10 : Hid (Po base w10 W5.heap.size (.slice (some ⟨g9, 0, none⟩) (out.length + 1) c9) (out ++ [p])) := by
                obtain ⟨cs, h⟩ := Hg9.out
                exact HO9.out.cut hO10 h hg5
              have HF10 : Hid (Fw w10 n b R G w.heap.size tb hb tr (w.heap.size + 1) (fun x => told x || decide (x ∈ p)) hm) := by
                obtain ⟨cs, h⟩ := Hg9.out
                exact HF9.out.off hO10 h hhbg
              have Hoff10 := Lib.hid (Hoff9.out.trans hO10 (fun r hr => .inl (by rw [hr]; rfl)))
              have Hsz10 : Hid (W5.heap.size ≤ w10.heap.size) := Nat.le_trans Hsz9.out hO10.size
              have hlo : Hid ((out ++ [p]).length + (A ++ C).length ≤ n) := by
                have h1 := hol.out
                have h2 := HL.out
                show _ ≤ _
                simp only [List.length_append, List.length_cons, List.length_nil] at h2 ⊢
                omega
              clear hP10 hO10
              go_wp2
              go_roundg (A ++ C).length
              case measure =>
                have h1 := hq.out
                have h2 := HL.out
                simp only [List.length_append, List.length_cons] at h2 ⊢
                omega
              case rel => exact ⟨A ++ C, _, out ++ [p], by rw [List.length_append], rfl, hlo.out, HT.out.1, HT.out.2, HP10.out, HO10.out, HF10.out, Hoff10.out, Hsz10.out⟩
        · obtain rfl : ps' = [] := List.length_eq_zero_iff.1 (by omega)
          have hO : Hid (Out (Eg n G) n (fun _ => False) out) := all_told hSf.out hRem.out
          obtain ⟨Ao, co, rfl, _⟩ := hPo.out.form
          have hL := Lib.hid hPo.out.ll
          go_wp2
          go_ret
          exact ⟨out, Ao, co, rfl, hO.out, hL.out, hOff.out, _, hPo.out⟩

end Go.Proofs.YtgpciipemgljcaaGreat.Gp

/-
  The walk of graph.Components once more: what it gives lies in rows whose types are known. Conditions: at most 1000 edges.
-/
namespace Go.Proofs.YtgpciipemgljcaaGreat.Gp
open Go.RowKit Go.Shelf
set_option linter.unusedVariables false

/-- The call gave the components in the order in which they are told, in rows. -/
def OutPr (w : World) (n : Int) (l : List (Int × Int)) (e : Ending) (w' : World) : Prop := ∃ out, Out (Ed (am n) l) (am n) (fun _ => False) out ∧ ∃ A c bs, e = .returned (.slice A out.length c) ∧ Po w.heap.size w' bs (.slice A out.length c) out ∧ Below w.heap.size w w'

set_option maxHeartbeats 1000000 in
theorem ComponentsP_any (n : Int) (A : Option Addr) (c : Nat) (l : List (Int × Int)) (hl : l.length ≤ 1000) (w : World) (hs : Es w w.heap.size A l) : Calls Tryz.prog 25 #[.int .i64 n, .slice A l.length c] w (OutPr w n l) := by
  have HR := Lib.hid (read_any n A c l hl w hs)
  have hle := am_le n
  generalize hm : am n = m at *
  go_enter Tryz.func25, Tryz.ntmps25
  go_wp2_with fail
  refine HR.out.mono ?_
  rintro e w1 ⟨b, R, rfl, hG, hb, hRb, B1⟩
  have HC := Lib.hid (components_any b R m (ge l) (by omega) w1 hG)
  go_wp2_with fail
  refine HC.out.mono ?_
  rintro e w2 ⟨qs, v, rfl, hRem, hPr, B2⟩
  have HI := Lib.hid (inOrderP_any b R m (ge l) (by omega) w1.heap.size v qs hRem w2 (hG.up B2) hPr)
  have Hv : Hid (∀ r, v.ownBlock = some r → w.heap.size ≤ r) := fun r hr => by
    obtain ⟨hs, ho, _⟩ := hPr
    exact Nat.le_trans B1.size (ho.lt r hr).1
  go_wp2_with fail
  refine HI.out.mono ?_
  rintro e w3 ⟨out, A, c, rfl, hOut, hLl, hOff, bs, hPs⟩
  have B := (B1.trans (B2.mono B1.size)).trans (hOff.below Hv.out (Nat.le_trans B1.size B2.size))
  rw [eg_ge] at hOut
  have HO := Lib.hid hOut
  have HB := Lib.hid B
  clear B hOut hOff
  go_wp2
  go_ret
  exact ⟨out, by rw [hm]; exact HO.out, A, c, bs, rfl, hPs.mono B1.size, HB.out⟩

end Go.Proofs.YtgpciipemgljcaaGreat.Gp
