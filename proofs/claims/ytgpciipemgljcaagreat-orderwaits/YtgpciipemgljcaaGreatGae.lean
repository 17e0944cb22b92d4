/-
  The walks of slices.Backward and of the closure that it hands back: a list is told from its end. Conditions: at most 1000 things.
-/
import Derived.Test.YtgpciipemgljcaaGreatGad
import Derived.RangeFuncNested
import Derived.RangeFuncBound
import Derived.RangeFuncCalls
import Derived.RangeFuncLeaves
import Derived.Shelf.Abstract
import Derived.Shelf.RegionOpen
import Derived.OwnWalkIn
import Derived.TacticsInMore
import Derived.LoopNIn
import Derived.LoopIn
import Derived.Test.YtgpciipemgljcaaGreatGab
namespace Go.Proofs.YtgpciipemgljcaaGreat.Gp
open Go.RowKit Go.Shelf
set_option linter.unusedVariables false
attribute [local go_sem] Oper.semAt_some

theorem back_any (v : Value) (hv : ∃ A n c, v = .slice A n c) (w : World) : Calls Tryz.prog 81 #[v] w (fun e w' => e = .returned (.func (.func 100) #[] #[.pointer (some ⟨w.heap.size, 0, none⟩)]) ∧ w' = w.alloc (.cells #[v] 26)) := by
  obtain ⟨A, n, c, rfl⟩ := hv
  go_enter Tryz.func81, Tryz.ntmps81
  go_wp2
  go_ret
  exact ⟨rfl, rfl⟩

/-- A thing among n. -/
abbrev Th (n : Nat) := {p : Nat // p < n}
/-- What comes: a thing, and where it stands. -/
abbrev Ty (n : Nat) := Th n × Nat
def ec {n : Nat} (x : Ty n) : Array Value := #[.int .i64 (x.2 : Int), .int .i64 (x.1.1 : Int)]
def seq {n : Nat} (L : List (Th n)) : List (Ty n) := L.zipIdx.reverse
theorem seq_len {n : Nat} (L : List (Th n)) : (seq L).length = L.length := by simp [seq]
theorem seq_at {n : Nat} (L : List (Th n)) {k : Nat} (hk : k < L.length) : (seq L)[k]'(by rw [seq_len]; exact hk) = (L[L.length - 1 - k], L.length - 1 - k) := by
  unfold seq
  rw [List.getElem_reverse]
  simp
theorem seq_take {n : Nat} (L : List (Th n)) {k : Nat} (hk : k < L.length) : (seq L).take (k + 1) = (seq L).take k ++ [(L[L.length - 1 - k], L.length - 1 - k)] := by
  rw [List.take_succ_eq_append_getElem (by rw [seq_len]; exact hk), seq_at L hk]

/-- What a round keeps: the box of what is told, and its row. -/
def Kq (Bb gl : Nat) (W W' : World) : Prop := W'.heap[Bb]? = W.heap[Bb]? ∧ W'.heap[gl]? = W.heap[gl]?
theorem kq_t {Bb gl : Nat} {A B C : World} (h : Kq Bb gl A B) (k : Kq Bb gl B C) : Kq Bb gl A C := ⟨k.1.trans h.1, k.2.trans h.2⟩
theorem kq_b {Bb gl : Nat} {w : World} (hB : Bb < w.heap.size) (hg : gl < w.heap.size) (W : World) (l : Nat) (o o' : Obj) (hl : w.heap.size ≤ l) (h : W.heap[l]? = some o) (h1 : o.isCells = false) (h2 : o.isWalk = false) : Kq Bb gl W (W.putObj l o') :=
  ⟨World.putObj_heap_other (fun e => by omega), World.putObj_heap_other (fun e => by omega)⟩

set_option maxRecDepth 100000 in
set_option maxHeartbeats 2000000 in
theorem iter_in (m : Nat) (hm : 1 ≤ m) (l Bb gl n : Nat) (A : Option Addr) (c : Nat) (L : List (Th n)) (hl : L.length ≤ 1000) (J Jx : List (Ty n) → World → Prop)
    (hY : ∀ pre x W, J pre W → pre.length < L.length → YieldAt Fence.wide (m - 1) Tryz.prog l (ec x) W fun e W' => (e = .returned (.bool true) ∧ J (pre ++ [x]) W' ∧ Kq Bb gl W W') ∨ (e = .returned (.bool false) ∧ Jx (pre ++ [x]) W'))
    (W : World) (hB : W.heap[Bb]? = some (.cells #[.slice A L.length c] 26 (0, 0))) (hA : L ≠ [] → A = some ⟨gl, 0, none⟩) (hc : ∀ j x, L[j]? = some x → W.cell? ⟨gl, j, none⟩ = some (.int .i64 (x.1 : Int))) (h0 : J [] W) :
    CallsIn Fence.wide m Tryz.prog 100 #[.func (.yield l) #[] #[], .pointer (some ⟨Bb, 0, none⟩)] W fun e W' => (∃ v, e = .returned v) ∧ ((∃ ys, ys = seq L ∧ J ys W') ∨ (∃ pre, True ∧ Jx pre W')) := by
  have cB := World.cell?_of_block (w := W) (w' := W) (a := ⟨Bb, 0, none⟩) rfl
  have c0 : W.cell? ⟨Bb, 0, none⟩ = some (.slice A L.length c) := by rw [cell_of_row W Bb 0 _ 26 _ hB]; rfl
  have HB := Lib.hid hB
  have HC := Lib.hid hc
  have HY := Lib.hid hY
  have HA := Lib.hid hA
  clear hB hc hY cB hA
  refine callsIn_of_wp Tryz.func100 rfl trivial ?_ rfl
  simp only [Tryz.ntmps100, List.size_toArray, List.length_cons, List.length_nil, Nat.reduceAdd, Nat.reduceSub, Array.replicate_succ, Array.replicate_zero, List.push_toArray, List.append_toArray, List.nil_append, List.cons_append]
  gi_wp2
  gi_loopw [3] (fun t wr => ∃ (k : Nat) (z : Int), k ≤ L.length ∧ t = .int .i64 z ∧ Hid (z = (L.length : Int) - 1 - (k : Int)) ∧ J ((seq L).take k) wr ∧ Kq Bb gl W wr) (fun t _ => (intOf t + 1).toNat)
  case atStart => exact ⟨0, _, Nat.zero_le _, rfl, by show _ = _; simp, by simpa using h0, rfl, rfl⟩
  case round =>
    obtain ⟨k, z, hk, rfl, hz, hJs, hK⟩ := hrel
    clear c0 h0
    by_cases hlt : k < L.length
    · obtain ⟨q, hq⟩ : ∃ q : Nat, q = L.length - 1 - k := ⟨_, rfl⟩
      obtain rfl : z = (q : Int) := by have := hz.out; omega
      have hql : q < L.length := by omega
      have hqi : (q : Int) < (L.length : Int) := by omega
      have hq0 : (0 : Int) ≤ (q : Int) := by omega
      obtain rfl := HA.out (by rintro rfl; simp at hlt)
      have cB : wr.cell? ⟨Bb, 0, none⟩ = some (.slice (some ⟨gl, 0, none⟩) L.length c) := by rw [cell_of_row wr Bb 0 _ 26 _ (hK.1.trans HB.out)]; rfl
      have cx : wr.cell? ⟨gl, q, none⟩ = some (.int .i64 (L[q].1 : Int)) := (World.cell?_of_block (a := ⟨gl, q, none⟩) hK.2).trans (HC.out q L[q] (List.getElem?_eq_getElem hql))
      have hT : (seq L).take (k + 1) = (seq L).take k ++ [(L[q], q)] := by
        have := seq_take L hlt
        simp only [← hq] at this
        exact this
      have HT := Lib.hid hT
      have hkl : ((seq L).take k).length < L.length := by rw [List.length_take, seq_len]; omega
      obtain ⟨fn, tmps, assign, body, hy, hRd⟩ := HY.out _ (L[q], q) wr hJs hkl
      generalize L[q] = x at *
      have HQ := Lib.hid hq
      clear hT hkl hq
      simp only [ec] at hy
      gi_wp2
      refine hRd.mono ?_
      rintro e W3 (⟨rfl, hJ3, hk3⟩ | ⟨rfl, hJx3⟩)
      · have hw : wrap64 ((q : Int) - 1) = (q : Int) - 1 := by unfold wrap64; omega
        gi_wp2
        go_roundw
        case rel => exact ⟨k + 1, (q : Int) - 1, by omega, by go_num, by have := HQ.out; show _ = _; omega, by rw [HT.out]; exact hJ3, kq_t hK hk3⟩
        case measure => simp [intOf]
      · gi_wp2
        refine bodyPost_ret (results_none rfl _ _ _) rfl ?_
        exact ⟨⟨_, rfl⟩, .inr ⟨_, trivial, hJx3⟩⟩
    · obtain rfl : k = L.length := by omega
      have hz1 : z = -1 := by have := hz.out; omega
      subst hz1
      have HE : Hid ((seq L).take L.length = seq L) := List.take_of_length_le (by rw [seq_len]; exact Nat.le_refl _)
      gi_wp2
      go_end0
      exact ⟨⟨_, rfl⟩, .inl ⟨_, rfl, by rw [← HE.out]; exact hJs⟩⟩

/-- What is told from its end: all of it, or some first ones where a round said 'no more'. -/
theorem stops (m : Nat) (hm : 1 ≤ m) (Bb gl n : Nat) (A : Option Addr) (c : Nat) (L : List (Th n)) (hl : L.length ≤ 1000) (w : World) (hBl : Bb < w.heap.size) (hgl : gl < w.heap.size)
    (hB : w.heap[Bb]? = some (.cells #[.slice A L.length c] 26 (0, 0))) (hA : L ≠ [] → A = some ⟨gl, 0, none⟩) (hc : ∀ j x, L[j]? = some x → w.cell? ⟨gl, j, none⟩ = some (.int .i64 (x.1 : Int))) :
    SeqStopsK Fence.wide m Tryz.prog 100 #[.pointer (some ⟨Bb, 0, none⟩)] (ec (n := n)) (Kq Bb gl) (fun ys => ys = seq L) (fun _ => True) L.length w := fun l J Jx W hW hJ hJx hY h0 =>
  iter_in m hm l Bb gl n A c L hl J Jx hY W ((hW.block Bb hBl).trans hB) hA (fun j x hx => (World.cell?_of_block (a := ⟨gl, j, none⟩) (hW.block gl hgl)).trans (hc j x hx)) h0

end Go.Proofs.YtgpciipemgljcaaGreat.Gp

/-
  The walks of cmp.Compare, of the closure that compares two lists by their first things, and of slices.SortFunc with it. Conditions: at most 1000 lists, none of them empty.
-/
namespace Go.Proofs.YtgpciipemgljcaaGreat.Gp
open Go.RowKit Go.Shelf
set_option linter.unusedVariables false

/-- -1, 0 or 1. -/
def cpr (x y : Int) : Int := if x < y then -1 else if y < x then 1 else 0

theorem isnan_any (x : Int) (w : World) : Calls Tryz.prog 94 #[.int .i64 x] w (fun e w' => e = .returned (.bool false) ∧ w' = w) := by
  have h : (x != x) = false := by simp
  go_enter Tryz.func94, Tryz.ntmps94
  go_wp2
  go_ret
  exact ⟨rfl, rfl⟩

theorem compare_any (x y : Int) (w : World) : Calls Tryz.prog 58 #[.int .i64 x, .int .i64 y] w (fun e w' => e = .returned (.int .i64 (cpr x y)) ∧ w' = w) := by
  have H1 := Lib.hid (isnan_any x w)
  have H2 := Lib.hid (isnan_any y w)
  have HC : Hid ((x < y → cpr x y = -1) ∧ (¬ x < y → y < x → cpr x y = 1) ∧ (¬ x < y → ¬ y < x → cpr x y = 0)) := by
    refine ⟨fun h => ?_, fun h k => ?_, fun h k => ?_⟩ <;> simp [cpr, *]
  generalize cpr x y = r at *
  by_cases h1 : x < y
  · obtain rfl := HC.out.1 h1
    go_enter Tryz.func58, Tryz.ntmps58
    go_wp2_with fail
    refine H1.out.mono ?_
    rintro e w1 ⟨rfl, rfl⟩
    go_wp2_with fail
    refine H2.out.mono ?_
    rintro e w2 ⟨rfl, rfl⟩
    go_wp2
    go_ret
    exact ⟨rfl, rfl⟩
  · by_cases h2 : y < x
    · obtain rfl := HC.out.2.1 h1 h2
      have d1 : decide (x < y) = false := decide_eq_false h1
      go_enter Tryz.func58, Tryz.ntmps58
      go_wp2_with fail
      refine H1.out.mono ?_
      rintro e w1 ⟨rfl, rfl⟩
      go_wp2_with fail
      refine H2.out.mono ?_
      rintro e w2 ⟨rfl, rfl⟩
      go_wp2
      go_ret
      exact ⟨rfl, rfl⟩
    · obtain rfl := HC.out.2.2 h1 h2
      have d1 : decide (x < y) = false := decide_eq_false h1
      have d2 : decide (y < x) = false := decide_eq_false h2
      go_enter Tryz.func58, Tryz.ntmps58
      go_wp2_with fail
      refine H1.out.mono ?_
      rintro e w1 ⟨rfl, rfl⟩
      go_wp2_with fail
      refine H2.out.mono ?_
      rintro e w2 ⟨rfl, rfl⟩
      go_wp2
      go_ret
      exact ⟨rfl, rfl⟩

/-- A list of things in a block of its own. -/
def Ir (w : World) (h : Value) (p : List Nat) : Prop := ∃ (g c : Nat) (cur : Array Value), h = .slice (some ⟨g, 0, none⟩) p.length c ∧ w.heap[g]? = some (.cells cur 3 (0, 0)) ∧ ∀ (j x : Nat), p[j]? = some x → cur[j]? = some (.int .i64 (x : Int))
theorem Ir.cell {w : World} {g n c : Nat} {p : List Nat} (h : Ir w (.slice (some ⟨g, 0, none⟩) n c) p) {j x : Nat} (hj : p[j]? = some x) : w.cell? ⟨g, j, none⟩ = some (.int .i64 (x : Int)) := by
  obtain ⟨g', c', cur, hv, hh, hc⟩ := h
  simp only [Value.slice.injEq, Option.some.injEq, Addr.mk.injEq] at hv
  obtain ⟨⟨rfl, _⟩, _⟩ := hv
  rw [cell_of_row w g j cur 3 _ hh]
  exact hc j x hj

theorem cmpc_any (a b : Value) (p q : List Nat) (hp : p ≠ []) (hq : q ≠ []) (w : World) (ha : Ir w a p) (hb : Ir w b q) : Calls Tryz.prog 83 #[a, b] w (fun e w' => e = .returned (.int .i64 (cpr (hd p : Int) (hd q : Int))) ∧ ∃ k, w' = w.drewN k) := by
  obtain ⟨g, c, cur, rfl, _⟩ := id ha
  obtain ⟨g', c', cur', rfl, _⟩ := id hb
  have hp0 : 0 < p.length := List.length_pos_iff.2 hp
  have hq0 : 0 < q.length := List.length_pos_iff.2 hq
  have c1 := ha.cell (j := 0) (x := hd p) (by cases p <;> simp_all [hd])
  have c2 := hb.cell (j := 0) (x := hd q) (by cases q <;> simp_all [hd])
  have HC := fun W => Lib.hid (compare_any (hd p : Int) (hd q : Int) W)
  have hpi : (0 : Int) < (p.length : Int) := by omega
  have hqi : (0 : Int) < (q.length : Int) := by omega
  generalize cpr (hd p : Int) (hd q : Int) = r at *
  generalize hd p = x at *
  generalize hd q = y at *
  clear ha hb
  go_enter Tryz.func83, Tryz.ntmps83
  go_wp2
  go_quiet ((go_at_call 58; refine Calls.quiet_of_same (HC _).out))
  go_wp2
  go_ret
  exact ⟨rfl, _, rfl⟩

/-- The same, in a block that does not lie below D. -/
def Jr (D : Nat) (w : World) (h : Value) (p : List Nat) : Prop := Ir w h p ∧ ∀ r, h.ownBlock = some r → D ≤ r
theorem Jr.mono {D D' : Nat} {w : World} {h : Value} {p : List Nat} (hi : Jr D w h p) (hD : D' ≤ D) : Jr D' w h p := ⟨hi.1, fun r hr => Nat.le_trans hD (hi.2 r hr)⟩
/-- The parts: a row of the call's own, of lists each in a block of its own. -/
def Po (D : Nat) (w : World) (base : Nat) (v : Value) (ps : List (List Nat)) : Prop := ∃ hs : List Value, w.ownsRow base 26 1 v ps.length hs ∧ ∀ (i : Nat) (p : List Nat), ps[i]? = some p → ∃ h, hs[i]? = some h ∧ Jr D w h p
abbrev Pr (w : World) (base : Nat) (v : Value) (ps : List (List Nat)) : Prop := Po base w base v ps
theorem Po.mono {D D' : Nat} {w : World} {base : Nat} {v : Value} {ps : List (List Nat)} (h : Po D w base v ps) (hD : D' ≤ D) : Po D' w base v ps := by
  obtain ⟨hs, h1, h2⟩ := h
  exact ⟨hs, h1, fun i p hp => by obtain ⟨x, k1, k2⟩ := h2 i p hp; exact ⟨x, k1, k2.mono hD⟩⟩

/-- A part's value where there is one. -/
structure Pt (D : Nat) (w : World) where
  p : List Nat
  h : Value
  ir : Jr D w h p
  ne : p ≠ []

theorem cpr_lt (x y : Int) : cpr x y < 0 ↔ x < y := by
  unfold cpr
  split
  · rename_i h; simp [h]
  · rename_i h
    split <;> simp [h]

open Go.Sort in
theorem swo_hd {D : Nat} {w : World} : SWO (ltOf fun (x y : Pt D w) => cpr (hd x.p : Int) (hd y.p : Int)) := by
  have key : ∀ x y : Pt D w, ltOf (fun (x y : Pt D w) => cpr (hd x.p : Int) (hd y.p : Int)) x y = decide (hd x.p < hd y.p) := fun x y => by
    unfold ltOf
    refine decide_eq_decide.2 ?_
    rw [cpr_lt]
    omega
  refine ⟨fun x => ?_, fun x y z h1 h2 => ?_, fun x y z h1 h2 => ?_⟩
  · rw [key]; simp
  · rw [key] at *; simp at *; omega
  · rw [key] at *; simp at *; omega

/-- All blocks of that type are as they were. -/
def Ut (t : TypeId) (w w' : World) : Prop := ∀ (b : Nat) (cs : Array Value), w.heap[b]? = some (.cells cs t (0, 0)) → w'.heap[b]? = some (.cells cs t (0, 0))
theorem Ut.of_off {t u : TypeId} {w w' : World} {g : Nat} {cs : Array Value} (h : Off (· = g) w w') (hg : w.heap[g]? = some (.cells cs u (0, 0))) (hne : t ≠ u) : Ut t w w' := fun b cs' hb => (h.block b (lt_of_block hb) (by
  rintro rfl
  rw [hg] at hb
  simp only [Option.some.injEq, Obj.cells.injEq] at hb
  exact hne hb.2.1.symm)).trans hb
theorem Ut.of_below {t : TypeId} {w w' : World} (h : Below w.heap.size w w') : Ut t w w' := fun b cs hb => (h.block b (lt_of_block hb)).trans hb
theorem Ut.trans {t : TypeId} {a b c : World} (h : Ut t a b) (k : Ut t b c) : Ut t a c := fun r cs hr => k r cs (h r cs hr)
theorem Ir.ut {w w' : World} {h : Value} {p : List Nat} (hi : Ir w h p) (hu : Ut 3 w w') : Ir w' h p := by
  obtain ⟨g, c, cur, e, hh, hc⟩ := hi
  exact ⟨g, c, cur, e, hu g cur hh, hc⟩
theorem Jr.ut {D : Nat} {w w' : World} {h : Value} {p : List Nat} (hi : Jr D w h p) (hu : Ut 3 w w') : Jr D w' h p := ⟨hi.1.ut hu, hi.2⟩
theorem pts {D : Nat} {w : World} : ∀ {ps : List (List Nat)} {hs : List Value}, hs.length = ps.length → (∀ (i : Nat) (p : List Nat), ps[i]? = some p → ∃ h, hs[i]? = some h ∧ Jr D w h p) → (∀ p ∈ ps, p ≠ []) → ∃ l : List (Pt D w), l.map (·.p) = ps ∧ l.map (·.h) = hs := by
  intro ps
  induction ps with
  | nil =>
    intro hs h _ _
    obtain rfl := List.length_eq_zero_iff.1 h
    exact ⟨[], rfl, rfl⟩
  | cons p ps ih =>
    intro hs h hi hne
    cases hs with
    | nil => simp at h
    | cons v hs =>
      obtain ⟨l, h1, h2⟩ := ih (by simpa using h) (fun i q hq => by
        have := hi (i + 1) q (by simpa using hq)
        simpa using this) (fun q hq => hne q (List.mem_cons_of_mem _ hq))
      obtain ⟨v', hv, hr⟩ := hi 0 p rfl
      simp at hv
      subst hv
      exact ⟨⟨p, v, hr, hne p (by simp)⟩ :: l, by simp [h1], by simp [h2]⟩
theorem Po.row {D : Nat} {w : World} {base g n c : Nat} {ps : List (List Nat)} (h : Po D w base (.slice (some ⟨g, 0, none⟩) n c) ps) : ∃ cs, w.heap[g]? = some (.cells cs 26 (0, 0)) := by
  obtain ⟨hs, ho, _⟩ := h
  rcases ho.2 with ⟨h0, _⟩ | ⟨g', cap, cur, hv, _, hh, _⟩
  · cases h0
  · simp only [Value.slice.injEq, Option.some.injEq, Addr.mk.injEq] at hv
    obtain ⟨⟨rfl, _⟩, _⟩ := hv
    exact ⟨cur, hh⟩

open Go.Sort in
theorem sortfunc_any (base g c : Nat) (ps : List (List Nat)) (hne : ∀ p ∈ ps, p ≠ []) (hps : ps ≠ []) (hl : ps.length ≤ 1000) (w : World) (h : Pr w base (.slice (some ⟨g, 0, none⟩) ps.length c) ps) :
    Calls Tryz.prog 82 #[.slice (some ⟨g, 0, none⟩) ps.length c, .func (.func 83) #[] #[]] w (fun e w' => e = .returned (.tuple #[]) ∧ ∃ qs, qs.Perm ps ∧ qs.Pairwise (fun p q => hd p ≤ hd q) ∧ Pr w' base (.slice (some ⟨g, 0, none⟩) qs.length c) qs ∧ Off (· = g) w w') := by
  obtain ⟨cs, hcs⟩ := h.row
  obtain ⟨hs, ho, hi⟩ := h
  have hhl : hs.length = ps.length := by have := ho.1; omega
  obtain ⟨l, h1, h2⟩ := pts hhl hi hne
  have hll : l.length = ps.length := by rw [← h1]; simp
  obtain ⟨x0, l', rfl⟩ : ∃ x l', l = x :: l' := by
    cases l with
    | nil => simp at hll; exact absurd (List.length_eq_zero_iff.1 hll.symm) hps
    | cons x l' => exact ⟨x, l', rfl⟩
  haveI : Inhabited (Pt base w) := ⟨x0⟩
  obtain ⟨l, hl0⟩ : ∃ l, l = x0 :: l' := ⟨_, rfl⟩
  rw [← hl0] at h1 h2 hll
  have hone : OneCell (fun x : Pt base w => x.h) := fun x => by
    obtain ⟨_, _, _, e, _⟩ := x.ir.1
    show x.h.oneCell' = true
    rw [e]; rfl
  have hlay : CmpLays1 Tryz.prog 83 #[] (fun x : Pt base w => x.h) (fun x y => cpr (hd x.p : Int) (hd y.p : Int)) g 0 l.toArray.size w := fun m os dk hs x y => by
    have hu : Ut 3 w (sortWorld (fun x : Pt base w => x.h) w g 0 m dk os) := Ut.of_off (put_off dk) hcs (by decide)
    refine (cmpc_any x.h y.h x.p y.p x.ne y.ne _ (x.ir.1.ut hu) (y.ir.1.ut hu)).mono ?_
    rintro e w' ⟨he, k, hk⟩
    exact ⟨he, k, #[], by rw [hk, grow_empty]⟩
  have hlt : g < w.heap.size := lt_of_block hcs
  rw [← h2] at ho
  have hcon := slices_SortFunc (fun x : Pt base w => x.h) hone (fun x y => cpr (hd x.p : Int) (hd y.p : Int)) swo_hd 83 #[] g 0 c l.toArray w (enters_of Tryz.func83 (by kernel_rfl) rfl) hlay (holds_own ho) hlt (by simp; omega)
  rw [show l.toArray.size = ps.length by simpa using hll] at hcon
  refine hcon.mono ?_
  rintro e w' ⟨rfl, d', n, os, hp, hso, rfl⟩
  have hds : d'.size = ps.length := hp.1.trans (by simpa using hll)
  have hperm : d'.toList.Perm l := by
    have := hp.2.2
    rw [show (d'.extract 0 ps.length) = d' by rw [← hds]; simp, show (l.toArray.extract 0 ps.length) = l.toArray by rw [← hll]; simp] at this
    simpa using this
  have hu : Ut 3 w (sortWorld (fun x : Pt base w => x.h) w g 0 n d' os) := Ut.of_off (put_off d') hcs (by decide)
  refine ⟨rfl, d'.toList.map (·.p), ?_, ?_, ⟨d'.toList.map (·.h), ?_, ?_⟩, put_off d'⟩
  · rw [← h1]; exact hperm.map _
  · rw [List.pairwise_map, List.pairwise_iff_getElem]
    intro i j hi' hj' hij
    simp only [Array.length_toList] at hi' hj'
    have := hso i j (Nat.zero_le _) hij (by omega)
    rw [getElem!_pos d' j hj', getElem!_pos d' i hi'] at this
    unfold ltOf at this
    rw [decide_eq_false_iff_not, cpr_lt] at this
    simp only [Array.getElem_toList]
    omega
  · have := put_own (enc := fun x : Pt base w => x.h) (k := n) (os := os) ho d' (by omega)
    simpa [hds, sortWorld] using this
  · intro i p hp
    rw [List.getElem?_map] at hp
    rcases hx : d'.toList[i]? with _ | x
    · rw [hx] at hp; cases hp
    · rw [hx] at hp
      simp only [Option.map_some, Option.some.injEq] at hp
      subst hp
      exact ⟨x.h, by rw [List.getElem?_map, hx]; rfl, x.ir.ut hu⟩

end Go.Proofs.YtgpciipemgljcaaGreat.Gp

/-
  The order in which ready nodes are done: each once, who waits for another one behind it but where that one waits for it, too. No program's function is walked here. No conditions.
-/
namespace Go.Proofs.YtgpciipemgljcaaGreat.Od
open Go.Proofs.YtgpciipemgljcaaGreat.Gp (Rt Out Ot cmp mem_cmp cmp_rises)
set_option linter.unusedVariables false

theorem ls_asym {x y : No} (h : ls x y = true) : ls y x = false := by
  rw [ls_iff] at h
  rw [Bool.eq_false_iff]
  intro k
  rw [ls_iff] at k
  unfold il at *
  omega
theorem ls_tot {x y : No} (hn : x.i ≠ y.i) (h : ls y x = false) : ls x y = true := by
  rw [ls_iff]
  have h1 : ¬ (y.q < x.q ∨ y.q = x.q ∧ il y.i x.i) := fun k => by rw [← ls_iff, h] at k; cases k
  rcases il_tri hn with k | k
  · by_cases e : x.q < y.q
    · exact .inl e
    · by_cases e2 : y.q < x.q
      · exact absurd (.inl e2) h1
      · exact .inr ⟨by omega, k⟩
  · by_cases e : x.q < y.q
    · exact .inl e
    · exact absurd (by by_cases e2 : y.q < x.q; exact .inl e2; exact .inr ⟨by omega, k⟩) h1

/-- Nodes of different instances. -/
def Ds (p : List No) : Prop := p.Pairwise fun x y => x.i ≠ y.i
theorem Ds.perm {p q : List No} (h : Ds p) (k : q.Perm p) : Ds q := (List.Perm.pairwise_iff (fun {x y} h => Ne.symm h) k).2 h
/-- Nodes as Less has them. -/
def so (p : List No) : List No := p.mergeSort fun x y => !ls y x
theorem so_perm (p : List No) : (so p).Perm p := List.mergeSort_perm _ _
theorem so_sorted (p : List No) : (so p).Pairwise fun x y => ls y x = false := by
  have h := List.pairwise_mergeSort (le := fun x y : No => !ls y x) (fun a b c h1 h2 => by
    simp only [Bool.not_eq_true', Bool.eq_false_iff, ne_eq, ls_iff] at *
    unfold il at *
    omega) (fun a b => by
    rcases hb : ls b a with _ | _
    · simp
    · simp [ls_asym hb]) p
  exact h.imp fun h => by simpa using h
theorem so_one {p o : List No} (hd : Ds p) (hp : o.Perm p) (hs : o.Pairwise fun x y => ls y x = false) : o = so p := by
  have key : ∀ {q : List No}, q.Perm p → q.Pairwise (fun x y => ls y x = false) → q.Pairwise fun x y => ls x y = true := fun hq hs => (hs.and (hd.perm hq)).imp fun k => ls_tot k.2 k.1
  refine same_of_rises (R := fun x y => ls x y = true) (fun x y h k => by rw [ls_asym h] at k; cases k) (key hp hs) (key (so_perm p) (so_sorted p)) fun x => ?_
  rw [hp.mem_iff, (so_perm p).mem_iff]
theorem mem_so {p : List No} {x : No} : x ∈ so p ↔ x ∈ p := (so_perm p).mem_iff

/-- The nodes at some places; all, in the order of the parts. -/
def pn (r : List No) (p : List Nat) : List No := p.filterMap (r[·]?)
def od (r : List No) (parts : List (List Nat)) : List No := parts.flatMap fun p => so (pn r p)
theorem mem_pn {r : List No} {p : List Nat} {n : No} : n ∈ pn r p ↔ ∃ k, k ∈ p ∧ r[k]? = some n := by simp [pn]
theorem mem_od {r : List No} {parts : List (List Nat)} {n : No} : n ∈ od r parts ↔ ∃ p, p ∈ parts ∧ ∃ k, k ∈ p ∧ r[k]? = some n := by simp [od, mem_so, mem_pn]

/-- They rise by their instances. -/
def Ri (r : List No) : Prop := r.Pairwise fun x y => il x.i y.i
theorem Ri.ne {r : List No} (h : Ri r) {a b : Nat} {x y : No} (ha : r[a]? = some x) (hb : r[b]? = some y) (hn : a ≠ b) : x.i ≠ y.i := by
  obtain ⟨h1, rfl⟩ := List.getElem?_eq_some_iff.1 ha
  obtain ⟨h2, rfl⟩ := List.getElem?_eq_some_iff.1 hb
  rcases Nat.lt_or_ge a b with hl | hl
  · exact il_ne (List.pairwise_iff_getElem.1 h a b h1 h2 hl)
  · exact (il_ne (List.pairwise_iff_getElem.1 h b a h2 h1 (by omega))).symm
theorem Ri.at_ {r : List No} (h : Ri r) {a b : Nat} {x : No} (ha : r[a]? = some x) (hb : r[b]? = some x) : a = b := by
  by_cases e : a = b
  · exact e
  · exact absurd rfl (h.ne ha hb e)
theorem Ri.one {r : List No} (h : Ri r) {x y : No} (hx : x ∈ r) (hy : y ∈ r) (e : x.i = y.i) : x = y := by
  obtain ⟨a, ha⟩ := List.getElem?_of_mem hx
  obtain ⟨b, hb⟩ := List.getElem?_of_mem hy
  by_cases k : a = b
  · subst k
    rw [ha] at hb
    exact Option.some.inj hb
  · exact absurd e (h.ne ha hb k)
theorem Ri.ds {r : List No} (h : Ri r) {p : List Nat} (hp : p.Nodup) : Ds (pn r p) := by
  unfold Ds pn
  rw [List.pairwise_filterMap]
  exact List.Pairwise.imp (fun {a b} k x hx y hy => h.ne hx hy k) hp

/-- A node reaches another one, by nodes of a list. -/
def Rn (r : List No) (x y : No) : Prop := ∃ a b, r[a]? = some x ∧ r[b]? = some y ∧ Rt (Wg r) a b

/-- x may be done ahead of y. -/
def Qa (r : List No) (x y : No) : Prop := x.i ≠ y.i ∧ (wa x y.i = true → Rn r y x) ∧ (Rn r x y → Rn r y x → ls x y = true)
theorem Rn.at_ {r : List No} (h : Ri r) {x y : No} {a b : Nat} (k : Rn r x y) (ha : r[a]? = some x) (hb : r[b]? = some y) : Rt (Wg r) a b := by
  obtain ⟨a', b', ha', hb', hr⟩ := k
  rw [h.at_ ha ha', h.at_ hb hb']
  exact hr
theorem od_qa {r : List No} (h : Ri r) {parts : List (List Nat)} (hO : Out (Wg r) r.length (fun _ => False) parts) : (od r parts).Pairwise (Qa r) := by
  have hT := hO.ot0 (wg_in r)
  have hnd : ∀ p ∈ parts, p.Nodup := fun p hp => by
    obtain ⟨k, _, rfl⟩ := hO.isc p hp
    exact Gp.rises_nodup (cmp_rises k)
  unfold od
  rw [List.pairwise_flatMap]
  constructor
  · intro p hp
    have hs := ((so_sorted (pn r p)).and ((h.ds (hnd p hp)).perm (so_perm _)))
    refine hs.imp_of_mem fun {x y} hx hy k => ?_
    rw [mem_so, mem_pn] at hx hy
    obtain ⟨a, ha, hxa⟩ := hx
    obtain ⟨b, hb, hyb⟩ := hy
    refine ⟨k.2, fun _ => ⟨b, a, hyb, hxa, ?_⟩, fun _ _ => ls_tot k.2 k.1⟩
    obtain ⟨t, _, rfl⟩ := hO.isc p hp
    exact (mem_cmp.1 hb).2.2.trans (mem_cmp.1 ha).2.1
  · rw [List.pairwise_iff_getElem]
    intro i j hi hj hij x hx y hy
    rw [mem_so, mem_pn] at hx hy
    obtain ⟨a, ha, hxa⟩ := hx
    obtain ⟨b, hb, hyb⟩ := hy
    have hab : a ≠ b := by
      rintro rfl
      have := hT.place (List.getElem?_eq_getElem hi) (List.getElem?_eq_getElem hj) ha hb
      omega
    refine ⟨h.ne hxa hyb hab, fun hw => ?_, fun k1 k2 => ?_⟩
    · exfalso
      rcases hT.ord i _ a b (List.getElem?_eq_getElem hi) ha ⟨x, y, hxa, hyb, hw⟩ with f | ⟨j', q, hj', hq, hbq⟩
      · exact f
      · have := hT.place hq (List.getElem?_eq_getElem hj) hbq hb
        omega
    · exfalso
      have r1 := k1.at_ h hxa hyb
      have r2 := k2.at_ h hyb hxa
      obtain ⟨t, ht, e⟩ := hO.isc parts[i] (List.getElem_mem hi)
      have hbi : b ∈ parts[i] := by
        rw [e] at ha ⊢
        have := mem_cmp.1 ha
        exact mem_cmp.2 ⟨(List.getElem?_eq_some_iff.1 hyb).1, this.2.1.trans r1, r2.trans this.2.2⟩
      have := hT.place (List.getElem?_eq_getElem hi) (List.getElem?_eq_getElem hj) hbi hb
      omega

/-- These ready nodes are done in this order. -/
def RdO (r : List No) (o : List Is) : Prop := ∃ parts, Out (Wg r) r.length (fun _ => False) parts ∧ o = (od r parts).map No.i
theorem RdO.one {r : List No} {o o' : List Is} (h : RdO r o) (h' : RdO r o') : o = o' := by
  obtain ⟨p, hp, rfl⟩ := h
  obtain ⟨q, hq, rfl⟩ := h'
  rw [hp.one hq]

structure Ors (r : List No) (o : List Is) : Prop where
  mem : ∀ i, i ∈ o ↔ ∃ n ∈ r, n.i = i
  one : ∀ (a b : Nat) (i : Is), o[a]? = some i → o[b]? = some i → a = b
  fst : ∀ x ∈ r, ∀ y ∈ r, ∀ p q : Nat, o[p]? = some x.i → o[q]? = some y.i → x.i ≠ y.i → wa x y.i = true → ¬ Rn r y x → q < p
  les : ∀ x ∈ r, ∀ y ∈ r, ∀ p q : Nat, o[p]? = some x.i → o[q]? = some y.i → x.i ≠ y.i → Rn r x y → Rn r y x → (p < q ↔ ls x y = true)
theorem RdO.ors {r : List No} {o : List Is} (h : Ri r) (k : RdO r o) : Ors r o := by
  obtain ⟨parts, hO, rfl⟩ := k
  have hT := hO.ot0 (wg_in r)
  have hq := od_qa h hO
  have hm : ∀ n, n ∈ od r parts ↔ n ∈ r := fun n => by
    rw [mem_od]
    constructor
    · rintro ⟨p, _, k, _, hk⟩; exact List.mem_of_getElem? hk
    · intro hn
      obtain ⟨k, hk⟩ := List.getElem?_of_mem hn
      obtain ⟨p, hp, hkp⟩ := hT.all k (List.getElem?_eq_some_iff.1 hk).1 (fun f => f)
      exact ⟨p, hp, k, hkp, hk⟩
  have at_ : ∀ x ∈ r, ∀ p : Nat, ((od r parts).map No.i)[p]? = some x.i → (od r parts)[p]? = some x := fun x hx p hp => by
    rw [List.getElem?_map] at hp
    rcases hz : (od r parts)[p]? with _ | z
    · rw [hz] at hp; cases hp
    · rw [hz] at hp
      simp only [Option.map_some, Option.some.injEq] at hp
      rw [h.one ((hm z).1 (List.mem_of_getElem? hz)) hx hp]
  have two : ∀ (x y : No) (p q : Nat), (od r parts)[p]? = some x → (od r parts)[q]? = some y → p < q → Qa r x y := fun x y p q hp hq' hl => by
    obtain ⟨h1, rfl⟩ := List.getElem?_eq_some_iff.1 hp
    obtain ⟨h2, rfl⟩ := List.getElem?_eq_some_iff.1 hq'
    exact List.pairwise_iff_getElem.1 hq p q h1 h2 hl
  refine ⟨fun i => ?_, fun a b i ha hb => ?_, fun x hx y hy p q hp hq' hn hw hr => ?_, fun x hx y hy p q hp hq' hn h1 h2 => ?_⟩
  · simp only [List.mem_map, hm]
  · rw [List.getElem?_map] at ha hb
    rcases hz : (od r parts)[a]? with _ | z
    · rw [hz] at ha; cases ha
    · rcases hu : (od r parts)[b]? with _ | u
      · rw [hu] at hb; cases hb
      · rw [hz] at ha
        rw [hu] at hb
        simp only [Option.map_some, Option.some.injEq] at ha hb
        rcases Nat.lt_trichotomy a b with hl | e | hl
        · exact absurd (ha.trans hb.symm) (two z u a b hz hu hl).1
        · exact e
        · exact absurd (hb.trans ha.symm) (two u z b a hu hz hl).1
  · have e1 := at_ x hx p hp
    have e2 := at_ y hy q hq'
    rcases Nat.lt_trichotomy p q with hl | e | hl
    · exact absurd ((two x y p q e1 e2 hl).2.1 hw) hr
    · subst e
      rw [e1] at e2
      exact absurd (congrArg No.i (Option.some.inj e2)) hn
    · exact hl
  · have e1 := at_ x hx p hp
    have e2 := at_ y hy q hq'
    constructor
    · intro hl; exact (two x y p q e1 e2 hl).2.2 h1 h2
    · intro hl
      rcases Nat.lt_trichotomy p q with k | e | k
      · exact k
      · subst e
        rw [e1] at e2
        exact absurd (congrArg No.i (Option.some.inj e2)) hn
      · have := ls_asym ((two y x q p e2 e1 k).2.2 h2 h1)
        rw [hl] at this; cases this

/-- What the statements ask of an order of nodes. -/
def F7 (l : List No) : Prop := ∀ n ∈ l, n.d.length ≤ 7
theorem F7.cs {l : List No} (h : F7 l) (D : List Is) : ∀ x ∈ cs l D, nr x = true ∧ x.d.length ≤ 7 := fun x hx => ⟨cs_nr hx, h x (cs_in hx)⟩
theorem rd_ri (l : List No) (D : List Is) : Ri (rd (cs l D) D) := rdk_rises D (cs_rises l D) _

theorem waits_law {l : List No} {D o : List Is} (h7 : F7 l) (hd : Di l) (hO : Ors (rd (cs l D) D) o) {n : No} (hn : n ∈ l) (ho : n.i ∈ o) :
    n ∈ rd (cs l D) D ∧ n.i ∉ D ∧ (∀ m ∈ ms (cs l D) D, wa n m = false) ∧ ∀ k : No, wa n k.i = true → k.i ∈ D ∨ k.i ∈ o := by
  obtain ⟨x, hx, e⟩ := (hO.mem n.i).1 ho
  obtain rfl : x = n := hd.one (cs_in (rd_in hx)) hn e
  refine ⟨hx, cs_new (rd_in hx), fun m hm => ?_, fun k hk => ?_⟩
  · obtain ⟨k, hk, hg⟩ := mem_rd.1 hx
    have := gd_iff.1 hg k .refl x hk
    rcases hb : wa x m with _ | _
    · rfl
    · have : lk (ms (cs l D) D) x = true := List.any_eq_true.2 ⟨m, hm, hb⟩
      simp_all
  · rcases (rd_cz (h7.cs D)).shut x hx k.i hk with h | ⟨y, hy, e2⟩
    · exact .inl h
    · exact .inr ((hO.mem k.i).2 ⟨y, hy, e2⟩)

theorem missing_law {l : List No} {D o : List Is} (hO : Ors (rd (cs l D) D) o) {m : Is} (hm : m ∈ ms (cs l D) D) : m ∉ D ∧ m ∉ o ∧ ∃ n ∈ l, wa n m = true := by
  have h1 := mp_iff.1 (mem_ms.1 hm).2
  have h2 := kn_no.1 h1.2
  refine ⟨h2.2, fun ho => ?_, ?_⟩
  · obtain ⟨x, hx, e⟩ := (hO.mem m).1 ho
    exact h2.1 x (rd_in hx) e
  · obtain ⟨n, hn, hw⟩ := h1.1
    exact ⟨n, cs_in hn, hw⟩
theorem none_law {l : List No} {D o : List Is} (hl : l.length ≤ 100) (hO : Ors (rd (cs l D) D) o) (h0 : ms (cs l D) D = []) {n : No} (hn : n ∈ l) (hr : nr n = true) (hD : n.i ∉ D) : n.i ∈ o := by
  obtain ⟨x, hx⟩ := fs_ex (l := l) (n := n) (by rw [List.take_of_length_le hl]; exact hn) hr
  have h1 := fs_some hx
  have hxc : x ∈ cs l D := mem_cs.2 (ct_some.2 ⟨by rw [h1.2.2]; exact hD, by rw [h1.2.2]; exact hx⟩)
  obtain ⟨k, hk⟩ := List.getElem?_of_mem hxc
  exact (hO.mem n.i).2 ⟨x, mem_rd.2 ⟨k, hk, gd_iff.2 fun j _ z _ => by rw [h0]; rfl⟩, h1.2.2⟩
theorem told_law {l m : List No} (D : List Is) (hl : l.length ≤ 100) (hm : m.length ≤ 100) (hd : Di l) (he : ∀ n, n ∈ m ↔ n ∈ l) : cs m D = cs l D := by
  refine same_of_rises (R := fun x y => il x.i y.i) (fun x y h k => il_asym h k) (cs_rises m D) (cs_rises l D) fun x => ?_
  rw [mem_cs_di (fun x hx y hy e => hd.one ((he x).1 hx) ((he y).1 hy) e) hm, mem_cs_di (fun x hx y hy e => hd.one hx hy e) hl, he]
end Go.Proofs.YtgpciipemgljcaaGreat.Od

/-
  The walks of cmp.Or, order's compareInst, compare, Less and the closures that sorts take, and of the document's Less. No conditions.
-/
namespace Go.Proofs.YtgpciipemgljcaaGreat.Od
open Go.RowKit Go.Sort
open Go.Proofs.YtgpciipemgljcaaGreat.Gp (cpr compare_any)
set_option linter.unusedVariables false

/-- The first of two numbers that is not nought. -/
def cor (x y : Int) : Int := if x = 0 then y else x
theorem or_any (g : Nat) (x y : Int) (w : World) (h0 : w.cell? ⟨g, 0, none⟩ = some (.int .i64 x)) (h1 : w.cell? ⟨g, 1, none⟩ = some (.int .i64 y)) :
    Calls Tryz.prog 57 #[.slice (some ⟨g, 0, none⟩) 2 2] w (fun e w' => e = .returned (.int .i64 (cor x y)) ∧ w' = w) := by
  have HC : Hid ((x ≠ 0 → cor x y = x) ∧ (x = 0 → cor x y = y)) := ⟨fun h => if_neg h, fun h => if_pos h⟩
  generalize cor x y = r at *
  go_enter Tryz.func57, Tryz.ntmps57
  go_wp2
  go_loopw [8] (fun t wr => ∃ k : Nat, k ≤ 2 ∧ t = .int .i64 (k : Int) ∧ wr = w ∧ Hid (1 ≤ k → x = 0) ∧ Hid (2 ≤ k → y = 0)) (fun t _ => 3 - (intOf t).toNat)
  case atStart => exact ⟨0, by omega, rfl, rfl, fun h => by omega, fun h => by omega⟩
  case round =>
    obtain ⟨k, hk, rfl, hW, hx, hy⟩ := hrel
    subst hW
    rcases (by omega : k = 0 ∨ k = 1 ∨ k = 2) with rfl | rfl | rfl
    · by_cases e : x = 0
      · subst e
        go_wp2
        go_roundw
        case rel => exact ⟨1, by omega, by go_num, by trivial, fun _ => by trivial, fun h => by omega⟩
        case measure => simp [intOf]
      · obtain rfl := HC.out.1 e
        have e2 : (r != 0) = true := by simpa using e
        go_wp2
        go_ret
        exact ⟨rfl, rfl⟩
    · obtain rfl := HC.out.2 (hx.out (by omega))
      by_cases e : r = 0
      · subst e
        go_wp2
        go_roundw
        case rel => exact ⟨2, by omega, by go_num, by trivial, fun _ => hx.out (by omega), fun _ => by trivial⟩
        case measure => simp [intOf]
      · have e2 : (r != 0) = true := by simpa using e
        go_wp2
        go_ret
        exact ⟨rfl, rfl⟩
    · obtain rfl := HC.out.2 (hx.out (by omega))
      obtain rfl := hy.out (by omega)
      go_wp2
      go_ret
      exact ⟨rfl, rfl⟩

theorem Gw.refl (w : World) : Gw w w := ⟨0, #[], by rw [grow_empty]; rfl⟩
theorem Gw.alloc {a w : World} (h : Gw a w) (o : Obj) : Gw a (w.alloc o) := by
  obtain ⟨q, os, rfl⟩ := h
  exact ⟨q, os ++ #[o], by rw [alloc_eq_grow, grow_grow]⟩
theorem drewN_grow (w : World) (q : Nat) (os : Array Obj) : (grow w os).drewN q = grow (w.drewN q) os := rfl
theorem Gw.drewN {a w : World} (h : Gw a w) (k : Nat) : Gw a (w.drewN k) := by
  obtain ⟨q, os, rfl⟩ := h
  exact ⟨q + k, os, by rw [drewN_grow, World.drewN_drewN]⟩
theorem Gw.drew {a w : World} (h : Gw a w) : Gw a w.drew := h.drewN 1
theorem Gw.trans {a b c : World} (h : Gw a b) (k : Gw b c) : Gw a c := by
  obtain ⟨q, os, rfl⟩ := k
  obtain ⟨q', os', hb⟩ := h.drewN q
  exact ⟨q', os' ++ os, by rw [hb, grow_grow]⟩
theorem Gw.below {a w : World} (h : Gw a w) : Below a.heap.size a w := by
  obtain ⟨q, os, rfl⟩ := h
  refine ⟨rfl, rfl, rfl, by simp [grow, World.drewN], fun k hk => ?_⟩
  simp [grow, World.drewN, Array.getElem?_append, hk]

/-- How instances, and nodes, compare. -/
def ci (a b : Is) : Int := cor (cpr a.1 b.1) (cpr a.2 b.2)
def cn (a b : No) : Int := cor (cpr a.q b.q) (ci a.i b.i)
theorem cpr_zero {x y : Int} : cpr x y = 0 ↔ x = y := by
  unfold cpr
  split
  · simp; omega
  · split
    · simp; omega
    · simp; omega
theorem ci_neg {a b : Is} : ci a b < 0 ↔ il a b := by
  unfold ci cor il
  split
  · rename_i h
    rw [cpr_zero] at h
    rw [Gp.cpr_lt]
    omega
  · rename_i h
    rw [cpr_zero] at h
    rw [Gp.cpr_lt]
    omega
theorem ci_zero {a b : Is} : ci a b = 0 ↔ a = b := by
  unfold ci cor
  obtain ⟨a1, a2⟩ := a
  obtain ⟨b1, b2⟩ := b
  simp only [Prod.mk.injEq]
  split
  · rename_i h
    rw [cpr_zero] at h ⊢
    simp [h]
  · rename_i h
    constructor
    · intro k; exact absurd k h
    · rintro ⟨rfl, rfl⟩; rw [cpr_zero] at h; exact absurd rfl h
theorem cn_neg {a b : No} : cn a b < 0 ↔ ls a b = true := by
  unfold cn cor
  rw [ls_iff]
  split
  · rename_i h
    rw [cpr_zero] at h
    rw [ci_neg]
    simp [h]
  · rename_i h
    rw [cpr_zero] at h
    rw [Gp.cpr_lt]
    omega

theorem pair_cells (W : World) (x y : Int) (t : TypeId) (k : Nat) (hk : k = W.heap.size) : (W.alloc (.cells #[.int .i64 x, .int .i64 y] t)).drew.cell? ⟨k, 0, none⟩ = some (.int .i64 x) ∧ (W.alloc (.cells #[.int .i64 x, .int .i64 y] t)).drew.cell? ⟨k, 1, none⟩ = some (.int .i64 y) := by
  subst hk
  exact ⟨by simp, by simp⟩

theorem jb_new2 (w : World) (o : Obj) (i : Is) : Jb ((w.alloc o).alloc (io i)) (w.heap.size + 1) i := by
  have := jb_new (w.alloc o) i
  rwa [World.size_alloc] at this
theorem nb_new2 (w : World) (o : Obj) (n : No) : Nb ((w.alloc o).alloc (no n)) (w.heap.size + 1) n := by
  have := nb_new (w.alloc o) n
  rwa [World.size_alloc] at this
theorem Jb.gw {v v' : World} {B : Nat} {i : Is} (h : Jb v B i) (hg : Gw v v') : Jb v' B i := h.on hg.below h.lt
theorem Nb.gw {v v' : World} {B : Nat} {n : No} (h : Nb v B n) (hg : Gw v v') : Nb v' B n := h.on hg.below h.lt

set_option maxHeartbeats 400000 in
theorem ci_any (a b : Is) (w : World) : Calls Tryz.prog 48 #[iv a, iv b] w (CmpPost w (ci a b)) := by
  obtain ⟨a1, a2⟩ := a
  obtain ⟨b1, b2⟩ := b
  have H1 : ∀ W, Hid (Calls Tryz.prog 58 #[.int .i64 a1, .int .i64 b1] W fun e w' => e = .returned (.int .i64 (cpr a1 b1)) ∧ w' = W) := fun W => compare_any a1 b1 W
  have H2 : ∀ W, Hid (Calls Tryz.prog 58 #[.int .i64 a2, .int .i64 b2] W fun e w' => e = .returned (.int .i64 (cpr a2 b2)) ∧ w' = W) := fun W => compare_any a2 b2 W
  have H3 : ∀ (W : World), Hid (Calls Tryz.prog 57 #[.slice (some ⟨W.heap.size, 0, none⟩) 2 2] ((W.alloc (.cells #[.int .i64 (cpr a1 b1), .int .i64 (cpr a2 b2)] 3)).drew) fun e w' => e = .returned (.int .i64 (ci (a1, a2) (b1, b2))) ∧ w' = (W.alloc (.cells #[.int .i64 (cpr a1 b1), .int .i64 (cpr a2 b2)] 3)).drew) := fun W => or_any _ _ _ _ (by simp) (by simp)
  generalize ci (a1, a2) (b1, b2) = r at *
  generalize cpr a1 b1 = x at *
  generalize cpr a2 b2 = y at *
  have G0 : Gw w ((w.alloc (.cells #[.int .i64 a1, .int .i64 a2] 25)).alloc (.cells #[.int .i64 b1, .int .i64 b2] 25)) := ((Gw.refl w).alloc _).alloc _
  have P0 : Jb ((w.alloc (.cells #[.int .i64 a1, .int .i64 a2] 25)).alloc (.cells #[.int .i64 b1, .int .i64 b2] 25)) w.heap.size (a1, a2) := (jb_new w (a1, a2)).old _
  have Q0 : Jb ((w.alloc (.cells #[.int .i64 a1, .int .i64 a2] 25)).alloc (.cells #[.int .i64 b1, .int .i64 b2] 25)) (w.heap.size + 1) (b1, b2) := jb_new2 w _ (b1, b2)
  go_enter Tryz.func48, Tryz.ntmps48
  go_wp2
  generalize (w.alloc (.cells #[.int .i64 a1, .int .i64 a2] 25)).alloc (.cells #[.int .i64 b1, .int .i64 b2] 25) = W0 at *
  obtain ⟨p0, p1⟩ := P0.jr
  obtain ⟨q0, q1⟩ := Q0.jr
  have KS : Hid (∀ v v', Gw v v' → (Jb v w.heap.size (a1, a2) ∧ Jb v (w.heap.size + 1) (b1, b2)) ∧ Gw W0 v → (Jb v' w.heap.size (a1, a2) ∧ Jb v' (w.heap.size + 1) (b1, b2)) ∧ Gw W0 v') := fun v v' hb hS => ⟨⟨hS.1.1.gw hb, hS.1.2.gw hb⟩, hS.2.trans hb⟩
  have KC : Hid (∀ v, (Jb v w.heap.size (a1, a2) ∧ Jb v (w.heap.size + 1) (b1, b2)) ∧ Gw W0 v → (((v.cell? ⟨w.heap.size, 0, none⟩ = some (.int .i64 a1) ∧ v.cell? ⟨w.heap.size, 1, none⟩ = some (.int .i64 a2)) ∧ (v.cell? ⟨w.heap.size + 1, 0, none⟩ = some (.int .i64 b1) ∧ v.cell? ⟨w.heap.size + 1, 1, none⟩ = some (.int .i64 b2))) ∧ (Jb v w.heap.size (a1, a2) ∧ Jb v (w.heap.size + 1) (b1, b2)) ∧ Gw W0 v)) := fun v hS => ⟨⟨hS.1.1.jr, hS.1.2.jr⟩, hS⟩
  have S0 := KC.out W0 ⟨⟨P0, Q0⟩, Gw.refl _⟩
  have KD : Hid (∀ v, (((v.cell? ⟨w.heap.size, 0, none⟩ = some (.int .i64 a1) ∧ v.cell? ⟨w.heap.size, 1, none⟩ = some (.int .i64 a2)) ∧ (v.cell? ⟨w.heap.size + 1, 0, none⟩ = some (.int .i64 b1) ∧ v.cell? ⟨w.heap.size + 1, 1, none⟩ = some (.int .i64 b2))) ∧ (Jb v w.heap.size (a1, a2) ∧ Jb v (w.heap.size + 1) (b1, b2)) ∧ Gw W0 v) → (((v.drew.cell? ⟨w.heap.size, 0, none⟩ = some (.int .i64 a1) ∧ v.drew.cell? ⟨w.heap.size, 1, none⟩ = some (.int .i64 a2)) ∧ (v.drew.cell? ⟨w.heap.size + 1, 0, none⟩ = some (.int .i64 b1) ∧ v.drew.cell? ⟨w.heap.size + 1, 1, none⟩ = some (.int .i64 b2))) ∧ (Jb v.drew w.heap.size (a1, a2) ∧ Jb v.drew (w.heap.size + 1) (b1, b2)) ∧ Gw W0 v.drew)) := fun v hS => KC.out _ (KS.out _ _ (Gw.refl _).drew hS.2)
  have KA : Hid (∀ v o, (((v.cell? ⟨w.heap.size, 0, none⟩ = some (.int .i64 a1) ∧ v.cell? ⟨w.heap.size, 1, none⟩ = some (.int .i64 a2)) ∧ (v.cell? ⟨w.heap.size + 1, 0, none⟩ = some (.int .i64 b1) ∧ v.cell? ⟨w.heap.size + 1, 1, none⟩ = some (.int .i64 b2))) ∧ (Jb v w.heap.size (a1, a2) ∧ Jb v (w.heap.size + 1) (b1, b2)) ∧ Gw W0 v) → ((((v.alloc o).cell? ⟨w.heap.size, 0, none⟩ = some (.int .i64 a1) ∧ (v.alloc o).cell? ⟨w.heap.size, 1, none⟩ = some (.int .i64 a2)) ∧ ((v.alloc o).cell? ⟨w.heap.size + 1, 0, none⟩ = some (.int .i64 b1) ∧ (v.alloc o).cell? ⟨w.heap.size + 1, 1, none⟩ = some (.int .i64 b2))) ∧ (Jb (v.alloc o) w.heap.size (a1, a2) ∧ Jb (v.alloc o) (w.heap.size + 1) (b1, b2)) ∧ Gw W0 (v.alloc o))) := fun v o hS => KC.out _ (KS.out _ _ ((Gw.refl _).alloc o) hS.2)
  clear P0 Q0
  go_region_held3 (fun v => ((v.cell? ⟨w.heap.size, 0, none⟩ = some (.int .i64 a1) ∧ v.cell? ⟨w.heap.size, 1, none⟩ = some (.int .i64 a2)) ∧ (v.cell? ⟨w.heap.size + 1, 0, none⟩ = some (.int .i64 b1) ∧ v.cell? ⟨w.heap.size + 1, 1, none⟩ = some (.int .i64 b2))) ∧ (Jb v w.heap.size (a1, a2) ∧ Jb v (w.heap.size + 1) (b1, b2)) ∧ Gw W0 v)
    (first | (exact S0) | (exact KD.out _ S0) | (exact KD.out _ (KA.out _ _ S0)) | (refine KA.out _ _ ?_; first | assumption | exact KD.out _ S0) | (refine KD.out _ ?_; assumption))
    (first | (go_at_call 58; first | ((with_reducible refine (H1 _).out.mono ?_); rintro e wa ⟨rfl, rfl⟩) | ((with_reducible refine (H2 _).out.mono ?_); rintro e wb ⟨rfl, rfl⟩)) | (go_at_call 57; (with_reducible refine (H3 _).out.mono ?_); rintro e wc ⟨rfl, rfl⟩))
  rename_i hSx
  go_wp2
  go_ret
  exact ⟨rfl, G0.trans hSx.2.2⟩

set_option maxHeartbeats 1000000 in
theorem cn_any (a b : No) (w : World) : Calls Tryz.prog 29 #[nv a, nv b] w (CmpPost w (cn a b)) := by
  obtain ⟨a1, a2, aq, ad, ah, ac⟩ := a
  obtain ⟨b1, b2, bq, bd, bh, bc⟩ := b
  have H1 : ∀ W, Hid (Calls Tryz.prog 58 #[.int .i64 aq, .int .i64 bq] W fun e w' => e = .returned (.int .i64 (cpr aq bq)) ∧ w' = W) := fun W => compare_any aq bq W
  have H2 : ∀ W, Hid (Calls Tryz.prog 48 #[.agg #[.int .i64 a1, .int .i64 a2], .agg #[.int .i64 b1, .int .i64 b2]] W (CmpPost W (ci (a1, a2) (b1, b2)))) := fun W => ci_any (a1, a2) (b1, b2) W
  have H3 : ∀ (W : World), Hid (Calls Tryz.prog 57 #[.slice (some ⟨W.heap.size, 0, none⟩) 2 2] (W.alloc (.cells #[.int .i64 (cpr aq bq), .int .i64 (ci (a1, a2) (b1, b2))] 3)) fun e w' => e = .returned (.int .i64 (cn ⟨a1, a2, aq, ad, ah, ac⟩ ⟨b1, b2, bq, bd, bh, bc⟩)) ∧ w' = W.alloc (.cells #[.int .i64 (cpr aq bq), .int .i64 (ci (a1, a2) (b1, b2))] 3)) := fun W => by
    have h := or_any W.heap.size (cpr aq bq) (ci (a1, a2) (b1, b2)) (W.alloc (.cells #[.int .i64 (cpr aq bq), .int .i64 (ci (a1, a2) (b1, b2))] 3)) (by simp) (by simp)
    exact h
  simp only [nv]
  generalize cn _ _ = r at *
  generalize ci (a1, a2) (b1, b2) = y at *
  generalize cpr aq bq = x at *
  have G0 : Gw w ((w.alloc (.cells #[.int .i64 a1, .int .i64 a2, .int .i64 aq, .slice ah ad.length ac] 30)).alloc (.cells #[.int .i64 b1, .int .i64 b2, .int .i64 bq, .slice bh bd.length bc] 30)) := ((Gw.refl w).alloc _).alloc _
  have P0 : Nb ((w.alloc (.cells #[.int .i64 a1, .int .i64 a2, .int .i64 aq, .slice ah ad.length ac] 30)).alloc (.cells #[.int .i64 b1, .int .i64 b2, .int .i64 bq, .slice bh bd.length bc] 30)) w.heap.size ⟨a1, a2, aq, ad, ah, ac⟩ := (nb_new w ⟨a1, a2, aq, ad, ah, ac⟩).old _
  have Q0 : Nb ((w.alloc (.cells #[.int .i64 a1, .int .i64 a2, .int .i64 aq, .slice ah ad.length ac] 30)).alloc (.cells #[.int .i64 b1, .int .i64 b2, .int .i64 bq, .slice bh bd.length bc] 30)) (w.heap.size + 1) ⟨b1, b2, bq, bd, bh, bc⟩ := nb_new2 w _ ⟨b1, b2, bq, bd, bh, bc⟩
  go_enter Tryz.func29, Tryz.ntmps29
  go_wp2
  generalize (w.alloc (.cells #[.int .i64 a1, .int .i64 a2, .int .i64 aq, .slice ah ad.length ac] 30)).alloc (.cells #[.int .i64 b1, .int .i64 b2, .int .i64 bq, .slice bh bd.length bc] 30) = W0 at *
  obtain ⟨p0, p1, p2, p3⟩ := P0.nr
  obtain ⟨q0, q1, q2, q3⟩ := Q0.nr
  have KS : Hid (∀ v v', Gw v v' → (Nb v w.heap.size ⟨a1, a2, aq, ad, ah, ac⟩ ∧ Nb v (w.heap.size + 1) ⟨b1, b2, bq, bd, bh, bc⟩) ∧ Gw W0 v → (Nb v' w.heap.size ⟨a1, a2, aq, ad, ah, ac⟩ ∧ Nb v' (w.heap.size + 1) ⟨b1, b2, bq, bd, bh, bc⟩) ∧ Gw W0 v') := fun v v' hb hS => ⟨⟨hS.1.1.gw hb, hS.1.2.gw hb⟩, hS.2.trans hb⟩
  have KC : Hid (∀ v, (Nb v w.heap.size ⟨a1, a2, aq, ad, ah, ac⟩ ∧ Nb v (w.heap.size + 1) ⟨b1, b2, bq, bd, bh, bc⟩) ∧ Gw W0 v → ((v.cell? ⟨w.heap.size, 0, none⟩ = some (.int .i64 a1) ∧ v.cell? ⟨w.heap.size, 1, none⟩ = some (.int .i64 a2) ∧ v.cell? ⟨w.heap.size, 2, none⟩ = some (.int .i64 aq) ∧ v.cell? ⟨w.heap.size, 3, none⟩ = some (.slice ah ad.length ac)) ∧ (v.cell? ⟨w.heap.size + 1, 0, none⟩ = some (.int .i64 b1) ∧ v.cell? ⟨w.heap.size + 1, 1, none⟩ = some (.int .i64 b2) ∧ v.cell? ⟨w.heap.size + 1, 2, none⟩ = some (.int .i64 bq) ∧ v.cell? ⟨w.heap.size + 1, 3, none⟩ = some (.slice bh bd.length bc))) ∧ (Nb v w.heap.size ⟨a1, a2, aq, ad, ah, ac⟩ ∧ Nb v (w.heap.size + 1) ⟨b1, b2, bq, bd, bh, bc⟩) ∧ Gw W0 v) := fun v hS => ⟨⟨hS.1.1.nr, hS.1.2.nr⟩, hS⟩
  have S0 := KC.out W0 ⟨⟨P0, Q0⟩, Gw.refl _⟩
  have KD : Hid (∀ v, ((v.cell? ⟨w.heap.size, 0, none⟩ = some (.int .i64 a1) ∧ v.cell? ⟨w.heap.size, 1, none⟩ = some (.int .i64 a2) ∧ v.cell? ⟨w.heap.size, 2, none⟩ = some (.int .i64 aq) ∧ v.cell? ⟨w.heap.size, 3, none⟩ = some (.slice ah ad.length ac)) ∧ (v.cell? ⟨w.heap.size + 1, 0, none⟩ = some (.int .i64 b1) ∧ v.cell? ⟨w.heap.size + 1, 1, none⟩ = some (.int .i64 b2) ∧ v.cell? ⟨w.heap.size + 1, 2, none⟩ = some (.int .i64 bq) ∧ v.cell? ⟨w.heap.size + 1, 3, none⟩ = some (.slice bh bd.length bc))) ∧ (Nb v w.heap.size ⟨a1, a2, aq, ad, ah, ac⟩ ∧ Nb v (w.heap.size + 1) ⟨b1, b2, bq, bd, bh, bc⟩) ∧ Gw W0 v → ((v.drew.cell? ⟨w.heap.size, 0, none⟩ = some (.int .i64 a1) ∧ v.drew.cell? ⟨w.heap.size, 1, none⟩ = some (.int .i64 a2) ∧ v.drew.cell? ⟨w.heap.size, 2, none⟩ = some (.int .i64 aq) ∧ v.drew.cell? ⟨w.heap.size, 3, none⟩ = some (.slice ah ad.length ac)) ∧ (v.drew.cell? ⟨w.heap.size + 1, 0, none⟩ = some (.int .i64 b1) ∧ v.drew.cell? ⟨w.heap.size + 1, 1, none⟩ = some (.int .i64 b2) ∧ v.drew.cell? ⟨w.heap.size + 1, 2, none⟩ = some (.int .i64 bq) ∧ v.drew.cell? ⟨w.heap.size + 1, 3, none⟩ = some (.slice bh bd.length bc))) ∧ (Nb v.drew w.heap.size ⟨a1, a2, aq, ad, ah, ac⟩ ∧ Nb v.drew (w.heap.size + 1) ⟨b1, b2, bq, bd, bh, bc⟩) ∧ Gw W0 v.drew) := fun v hS => KC.out _ (KS.out _ _ (Gw.refl _).drew hS.2)
  have KA : Hid (∀ v o, ((v.cell? ⟨w.heap.size, 0, none⟩ = some (.int .i64 a1) ∧ v.cell? ⟨w.heap.size, 1, none⟩ = some (.int .i64 a2) ∧ v.cell? ⟨w.heap.size, 2, none⟩ = some (.int .i64 aq) ∧ v.cell? ⟨w.heap.size, 3, none⟩ = some (.slice ah ad.length ac)) ∧ (v.cell? ⟨w.heap.size + 1, 0, none⟩ = some (.int .i64 b1) ∧ v.cell? ⟨w.heap.size + 1, 1, none⟩ = some (.int .i64 b2) ∧ v.cell? ⟨w.heap.size + 1, 2, none⟩ = some (.int .i64 bq) ∧ v.cell? ⟨w.heap.size + 1, 3, none⟩ = some (.slice bh bd.length bc))) ∧ (Nb v w.heap.size ⟨a1, a2, aq, ad, ah, ac⟩ ∧ Nb v (w.heap.size + 1) ⟨b1, b2, bq, bd, bh, bc⟩) ∧ Gw W0 v → (((v.alloc o).cell? ⟨w.heap.size, 0, none⟩ = some (.int .i64 a1) ∧ (v.alloc o).cell? ⟨w.heap.size, 1, none⟩ = some (.int .i64 a2) ∧ (v.alloc o).cell? ⟨w.heap.size, 2, none⟩ = some (.int .i64 aq) ∧ (v.alloc o).cell? ⟨w.heap.size, 3, none⟩ = some (.slice ah ad.length ac)) ∧ ((v.alloc o).cell? ⟨w.heap.size + 1, 0, none⟩ = some (.int .i64 b1) ∧ (v.alloc o).cell? ⟨w.heap.size + 1, 1, none⟩ = some (.int .i64 b2) ∧ (v.alloc o).cell? ⟨w.heap.size + 1, 2, none⟩ = some (.int .i64 bq) ∧ (v.alloc o).cell? ⟨w.heap.size + 1, 3, none⟩ = some (.slice bh bd.length bc))) ∧ (Nb (v.alloc o) w.heap.size ⟨a1, a2, aq, ad, ah, ac⟩ ∧ Nb (v.alloc o) (w.heap.size + 1) ⟨b1, b2, bq, bd, bh, bc⟩) ∧ Gw W0 (v.alloc o)) := fun v o hS => KC.out _ (KS.out _ _ ((Gw.refl _).alloc o) hS.2)
  have KB : Hid (∀ v v', Gw v v' → ((v.cell? ⟨w.heap.size, 0, none⟩ = some (.int .i64 a1) ∧ v.cell? ⟨w.heap.size, 1, none⟩ = some (.int .i64 a2) ∧ v.cell? ⟨w.heap.size, 2, none⟩ = some (.int .i64 aq) ∧ v.cell? ⟨w.heap.size, 3, none⟩ = some (.slice ah ad.length ac)) ∧ (v.cell? ⟨w.heap.size + 1, 0, none⟩ = some (.int .i64 b1) ∧ v.cell? ⟨w.heap.size + 1, 1, none⟩ = some (.int .i64 b2) ∧ v.cell? ⟨w.heap.size + 1, 2, none⟩ = some (.int .i64 bq) ∧ v.cell? ⟨w.heap.size + 1, 3, none⟩ = some (.slice bh bd.length bc))) ∧ (Nb v w.heap.size ⟨a1, a2, aq, ad, ah, ac⟩ ∧ Nb v (w.heap.size + 1) ⟨b1, b2, bq, bd, bh, bc⟩) ∧ Gw W0 v → ((v'.cell? ⟨w.heap.size, 0, none⟩ = some (.int .i64 a1) ∧ v'.cell? ⟨w.heap.size, 1, none⟩ = some (.int .i64 a2) ∧ v'.cell? ⟨w.heap.size, 2, none⟩ = some (.int .i64 aq) ∧ v'.cell? ⟨w.heap.size, 3, none⟩ = some (.slice ah ad.length ac)) ∧ (v'.cell? ⟨w.heap.size + 1, 0, none⟩ = some (.int .i64 b1) ∧ v'.cell? ⟨w.heap.size + 1, 1, none⟩ = some (.int .i64 b2) ∧ v'.cell? ⟨w.heap.size + 1, 2, none⟩ = some (.int .i64 bq) ∧ v'.cell? ⟨w.heap.size + 1, 3, none⟩ = some (.slice bh bd.length bc))) ∧ (Nb v' w.heap.size ⟨a1, a2, aq, ad, ah, ac⟩ ∧ Nb v' (w.heap.size + 1) ⟨b1, b2, bq, bd, bh, bc⟩) ∧ Gw W0 v') := fun v v' hb hS => KC.out _ (KS.out _ _ hb hS.2)
  clear P0 Q0
  go_region_held3 (fun v => ((v.cell? ⟨w.heap.size, 0, none⟩ = some (.int .i64 a1) ∧ v.cell? ⟨w.heap.size, 1, none⟩ = some (.int .i64 a2) ∧ v.cell? ⟨w.heap.size, 2, none⟩ = some (.int .i64 aq) ∧ v.cell? ⟨w.heap.size, 3, none⟩ = some (.slice ah ad.length ac)) ∧ (v.cell? ⟨w.heap.size + 1, 0, none⟩ = some (.int .i64 b1) ∧ v.cell? ⟨w.heap.size + 1, 1, none⟩ = some (.int .i64 b2) ∧ v.cell? ⟨w.heap.size + 1, 2, none⟩ = some (.int .i64 bq) ∧ v.cell? ⟨w.heap.size + 1, 3, none⟩ = some (.slice bh bd.length bc))) ∧ (Nb v w.heap.size ⟨a1, a2, aq, ad, ah, ac⟩ ∧ Nb v (w.heap.size + 1) ⟨b1, b2, bq, bd, bh, bc⟩) ∧ Gw W0 v)
    (first | (exact S0) | assumption | (exact KD.out _ S0) | (exact KD.out _ (KA.out _ _ S0)) | (refine KB.out _ _ hb ?_; first | assumption | exact KD.out _ S0 | exact S0) | (refine KA.out _ _ ?_; first | assumption | exact KD.out _ S0) | (refine KD.out _ ?_; assumption))
    (first | (go_at_call 58; (with_reducible refine (H1 _).out.mono ?_); rintro e wa ⟨rfl, rfl⟩) | (go_at_call 48; (with_reducible refine (H2 _).out.mono ?_); rintro e wb ⟨rfl, hb⟩) | (go_at_call 57; (with_reducible refine (H3 _).out.mono ?_); rintro e wc ⟨rfl, rfl⟩))
  rename_i hSx
  go_wp2
  go_ret
  exact ⟨rfl, G0.trans hSx.2.2⟩

set_option maxHeartbeats 1000000 in
/-- The closure that sorts nodes by their instances. -/
theorem by_inst (a b : No) (w : World) : Calls Tryz.prog 47 #[nv a, nv b] w (CmpPost w (ci a.i b.i)) := by
  obtain ⟨a1, a2, aq, ad, ah, ac⟩ := a
  obtain ⟨b1, b2, bq, bd, bh, bc⟩ := b
  have H2 : ∀ W, Hid (Calls Tryz.prog 48 #[.agg #[.int .i64 a1, .int .i64 a2], .agg #[.int .i64 b1, .int .i64 b2]] W (CmpPost W (ci (a1, a2) (b1, b2)))) := fun W => ci_any (a1, a2) (b1, b2) W
  show Calls _ _ _ _ (CmpPost w (ci (a1, a2) (b1, b2)))
  generalize ci (a1, a2) (b1, b2) = y at *
  have G0 : Gw w ((w.alloc (.cells #[.int .i64 a1, .int .i64 a2, .int .i64 aq, .slice ah ad.length ac] 30)).alloc (.cells #[.int .i64 b1, .int .i64 b2, .int .i64 bq, .slice bh bd.length bc] 30)) := ((Gw.refl w).alloc _).alloc _
  simp only [nv]
  go_enter Tryz.func47, Tryz.ntmps47
  go_wp2_with fail
  refine (H2 _).out.mono ?_
  rintro e w1 ⟨rfl, hg⟩
  go_wp2
  go_ret
  exact ⟨rfl, G0.trans hg⟩

set_option maxHeartbeats 1000000 in
theorem Less_any (a b : No) (w : World) : Calls Tryz.prog 16 #[nv a, nv b] w (BoolPost w (ls a b)) := by
  have H2 : ∀ W, Hid (Calls Tryz.prog 29 #[nv a, nv b] W (CmpPost W (cn a b))) := fun W => cn_any a b W
  have HL : Hid (ls a b = decide (cn a b < 0)) := by
    show _ = _
    rw [Bool.eq_iff_iff, decide_eq_true_iff, cn_neg]
  generalize cn a b = y at *
  generalize ls a b = r at *
  obtain rfl := HL.out
  simp only [nv] at *
  go_enter Tryz.func16, Tryz.ntmps16
  go_wp2_with fail
  refine (H2 _).out.mono ?_
  rintro e w1 ⟨rfl, hg⟩
  go_wp2
  go_ret
  exact ⟨rfl, ((((Gw.refl w).alloc _).alloc _).trans hg).below⟩

end Go.Proofs.YtgpciipemgljcaaGreat.Od
