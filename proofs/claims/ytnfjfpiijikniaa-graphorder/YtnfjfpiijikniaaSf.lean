/-
  The walks of cmp.Compare, of the closure that compares two lists by their first things, and of slices.SortFunc with it. Conditions: at most 1000 lists, none of them empty.
-/
import Derived.Test.YtnfjfpiijikniaaBw
namespace Go.Proofs.Ytnfjfpiijikniaa.Gp
open Go.RowKit Go.Shelf
set_option linter.unusedVariables false

/-- -1, 0 or 1. -/
def cpr (x y : Int) : Int := if x < y then -1 else if y < x then 1 else 0

theorem isnan_any (x : Int) (w : World) : Calls Try.prog 44 #[.int .i64 x] w (fun e w' => e = .returned (.bool false) ∧ w' = w) := by
  have h : (x != x) = false := by simp
  go_enter Try.func44, Try.ntmps44
  go_wp2
  go_ret
  exact ⟨rfl, rfl⟩

theorem compare_any (x y : Int) (w : World) : Calls Try.prog 38 #[.int .i64 x, .int .i64 y] w (fun e w' => e = .returned (.int .i64 (cpr x y)) ∧ w' = w) := by
  have H1 := Lib.hid (isnan_any x w)
  have H2 := Lib.hid (isnan_any y w)
  have HC : Hid ((x < y → cpr x y = -1) ∧ (¬ x < y → y < x → cpr x y = 1) ∧ (¬ x < y → ¬ y < x → cpr x y = 0)) := by
    refine ⟨fun h => ?_, fun h k => ?_, fun h k => ?_⟩ <;> simp [cpr, *]
  generalize cpr x y = r at *
  by_cases h1 : x < y
  · obtain rfl := HC.out.1 h1
    go_enter Try.func38, Try.ntmps38
    go_wp2_with fail
    refine H1.out.mono ?_
    rintro e w1 ⟨rfl, rfl⟩
    go_wp2_with fail
    refine H2.out.mono ?_
    rintro e w2 ⟨rfl, rfl⟩
    go_wp2
    go_ret
    exact ⟨rfl, rfl⟩
  · by_cases h2 : y < x
    · obtain rfl := HC.out.2.1 h1 h2
      have d1 : decide (x < y) = false := decide_eq_false h1
      go_enter Try.func38, Try.ntmps38
      go_wp2_with fail
      refine H1.out.mono ?_
      rintro e w1 ⟨rfl, rfl⟩
      go_wp2_with fail
      refine H2.out.mono ?_
      rintro e w2 ⟨rfl, rfl⟩
      go_wp2
      go_ret
      exact ⟨rfl, rfl⟩
    · obtain rfl := HC.out.2.2 h1 h2
      have d1 : decide (x < y) = false := decide_eq_false h1
      have d2 : decide (y < x) = false := decide_eq_false h2
      go_enter Try.func38, Try.ntmps38
      go_wp2_with fail
      refine H1.out.mono ?_
      rintro e w1 ⟨rfl, rfl⟩
      go_wp2_with fail
      refine H2.out.mono ?_
      rintro e w2 ⟨rfl, rfl⟩
      go_wp2
      go_ret
      exact ⟨rfl, rfl⟩

/-- A list of things in a block of its own. -/
def Ir (w : World) (h : Value) (p : List Nat) : Prop := ∃ (g c : Nat) (cur : Array Value), h = .slice (some ⟨g, 0, none⟩) p.length c ∧ w.heap[g]? = some (.cells cur 3 (0, 0)) ∧ ∀ (j x : Nat), p[j]? = some x → cur[j]? = some (.int .i64 (x : Int))
theorem Ir.cell {w : World} {g n c : Nat} {p : List Nat} (h : Ir w (.slice (some ⟨g, 0, none⟩) n c) p) {j x : Nat} (hj : p[j]? = some x) : w.cell? ⟨g, j, none⟩ = some (.int .i64 (x : Int)) := by
  obtain ⟨g', c', cur, hv, hh, hc⟩ := h
  simp only [Value.slice.injEq, Option.some.injEq, Addr.mk.injEq] at hv
  obtain ⟨⟨rfl, _⟩, _⟩ := hv
  rw [cell_of_row w g j cur 3 _ hh]
  exact hc j x hj

theorem cmpc_any (a b : Value) (p q : List Nat) (hp : p ≠ []) (hq : q ≠ []) (w : World) (ha : Ir w a p) (hb : Ir w b q) : Calls Try.prog 37 #[a, b] w (fun e w' => e = .returned (.int .i64 (cpr (hd p : Int) (hd q : Int))) ∧ ∃ k, w' = w.drewN k) := by
  obtain ⟨g, c, cur, rfl, _⟩ := id ha
  obtain ⟨g', c', cur', rfl, _⟩ := id hb
  have hp0 : 0 < p.length := List.length_pos_iff.2 hp
  have hq0 : 0 < q.length := List.length_pos_iff.2 hq
  have c1 := ha.cell (j := 0) (x := hd p) (by cases p <;> simp_all [hd])
  have c2 := hb.cell (j := 0) (x := hd q) (by cases q <;> simp_all [hd])
  have HC := fun W => Lib.hid (compare_any (hd p : Int) (hd q : Int) W)
  have hpi : (0 : Int) < (p.length : Int) := by omega
  have hqi : (0 : Int) < (q.length : Int) := by omega
  generalize cpr (hd p : Int) (hd q : Int) = r at *
  generalize hd p = x at *
  generalize hd q = y at *
  clear ha hb
  go_enter Try.func37, Try.ntmps37
  go_wp2
  go_quiet ((go_at_call 38; refine Calls.quiet_of_same (HC _).out))
  go_wp2
  go_ret
  exact ⟨rfl, _, rfl⟩

/-- The parts: a row of the call's own, of lists each in a block of its own. -/
def Pr (w : World) (base : Nat) (v : Value) (ps : List (List Nat)) : Prop := ∃ hs : List Value, w.ownsRow base 29 1 v ps.length hs ∧ ∀ (i : Nat) (p : List Nat), ps[i]? = some p → ∃ h, hs[i]? = some h ∧ Ir w h p

/-- A part's value where there is one. -/
structure Pt (w : World) where
  p : List Nat
  h : Value
  ir : Ir w h p
  ne : p ≠ []

theorem cpr_lt (x y : Int) : cpr x y < 0 ↔ x < y := by
  unfold cpr
  split
  · rename_i h; simp [h]
  · rename_i h
    split <;> simp [h]

open Go.Sort in
theorem swo_hd {w : World} : SWO (ltOf fun (x y : Pt w) => cpr (hd x.p : Int) (hd y.p : Int)) := by
  have key : ∀ x y : Pt w, ltOf (fun (x y : Pt w) => cpr (hd x.p : Int) (hd y.p : Int)) x y = decide (hd x.p < hd y.p) := fun x y => by
    unfold ltOf
    refine decide_eq_decide.2 ?_
    rw [cpr_lt]
    omega
  refine ⟨fun x => ?_, fun x y z h1 h2 => ?_, fun x y z h1 h2 => ?_⟩
  · rw [key]; simp
  · rw [key] at *; simp at *; omega
  · rw [key] at *; simp at *; omega

/-- All blocks of that type are as they were. -/
def Ut (t : TypeId) (w w' : World) : Prop := ∀ (b : Nat) (cs : Array Value), w.heap[b]? = some (.cells cs t (0, 0)) → w'.heap[b]? = some (.cells cs t (0, 0))
theorem Ut.of_off {t u : TypeId} {w w' : World} {g : Nat} {cs : Array Value} (h : Off (· = g) w w') (hg : w.heap[g]? = some (.cells cs u (0, 0))) (hne : t ≠ u) : Ut t w w' := fun b cs' hb => (h.block b (lt_of_block hb) (by
  rintro rfl
  rw [hg] at hb
  simp only [Option.some.injEq, Obj.cells.injEq] at hb
  exact hne hb.2.1.symm)).trans hb
theorem Ut.of_below {t : TypeId} {w w' : World} (h : Below w.heap.size w w') : Ut t w w' := fun b cs hb => (h.block b (lt_of_block hb)).trans hb
theorem Ut.trans {t : TypeId} {a b c : World} (h : Ut t a b) (k : Ut t b c) : Ut t a c := fun r cs hr => k r cs (h r cs hr)
theorem Ir.ut {w w' : World} {h : Value} {p : List Nat} (hi : Ir w h p) (hu : Ut 3 w w') : Ir w' h p := by
  obtain ⟨g, c, cur, e, hh, hc⟩ := hi
  exact ⟨g, c, cur, e, hu g cur hh, hc⟩
theorem pts {w : World} : ∀ {ps : List (List Nat)} {hs : List Value}, hs.length = ps.length → (∀ (i : Nat) (p : List Nat), ps[i]? = some p → ∃ h, hs[i]? = some h ∧ Ir w h p) → (∀ p ∈ ps, p ≠ []) → ∃ l : List (Pt w), l.map (·.p) = ps ∧ l.map (·.h) = hs := by
  intro ps
  induction ps with
  | nil =>
    intro hs h _ _
    obtain rfl := List.length_eq_zero_iff.1 h
    exact ⟨[], rfl, rfl⟩
  | cons p ps ih =>
    intro hs h hi hne
    cases hs with
    | nil => simp at h
    | cons v hs =>
      obtain ⟨l, h1, h2⟩ := ih (by simpa using h) (fun i q hq => by
        have := hi (i + 1) q (by simpa using hq)
        simpa using this) (fun q hq => hne q (List.mem_cons_of_mem _ hq))
      obtain ⟨v', hv, hr⟩ := hi 0 p rfl
      simp at hv
      subst hv
      exact ⟨⟨p, v, hr, hne p (by simp)⟩ :: l, by simp [h1], by simp [h2]⟩
theorem Pr.row {w : World} {base g n c : Nat} {ps : List (List Nat)} (h : Pr w base (.slice (some ⟨g, 0, none⟩) n c) ps) : ∃ cs, w.heap[g]? = some (.cells cs 29 (0, 0)) := by
  obtain ⟨hs, ho, _⟩ := h
  rcases ho.2 with ⟨h0, _⟩ | ⟨g', cap, cur, hv, _, hh, _⟩
  · cases h0
  · simp only [Value.slice.injEq, Option.some.injEq, Addr.mk.injEq] at hv
    obtain ⟨⟨rfl, _⟩, _⟩ := hv
    exact ⟨cur, hh⟩

open Go.Sort in
theorem sortfunc_any (base g c : Nat) (ps : List (List Nat)) (hne : ∀ p ∈ ps, p ≠ []) (hps : ps ≠ []) (hl : ps.length ≤ 1000) (w : World) (h : Pr w base (.slice (some ⟨g, 0, none⟩) ps.length c) ps) :
    Calls Try.prog 36 #[.slice (some ⟨g, 0, none⟩) ps.length c, .func (.func 37) #[] #[]] w (fun e w' => e = .returned (.tuple #[]) ∧ ∃ qs, qs.Perm ps ∧ qs.Pairwise (fun p q => hd p ≤ hd q) ∧ Pr w' base (.slice (some ⟨g, 0, none⟩) qs.length c) qs ∧ Off (· = g) w w') := by
  obtain ⟨cs, hcs⟩ := h.row
  obtain ⟨hs, ho, hi⟩ := h
  have hhl : hs.length = ps.length := by have := ho.1; omega
  obtain ⟨l, h1, h2⟩ := pts hhl hi hne
  have hll : l.length = ps.length := by rw [← h1]; simp
  obtain ⟨x0, l', rfl⟩ : ∃ x l', l = x :: l' := by
    cases l with
    | nil => simp at hll; exact absurd (List.length_eq_zero_iff.1 hll.symm) hps
    | cons x l' => exact ⟨x, l', rfl⟩
  haveI : Inhabited (Pt w) := ⟨x0⟩
  obtain ⟨l, hl0⟩ : ∃ l, l = x0 :: l' := ⟨_, rfl⟩
  rw [← hl0] at h1 h2 hll
  have hone : OneCell (fun x : Pt w => x.h) := fun x => by
    obtain ⟨_, _, _, e, _⟩ := x.ir
    show x.h.oneCell' = true
    rw [e]; rfl
  have hlay : CmpLays1 Try.prog 37 #[] (fun x : Pt w => x.h) (fun x y => cpr (hd x.p : Int) (hd y.p : Int)) g 0 l.toArray.size w := fun m os dk hs x y => by
    have hu : Ut 3 w (sortWorld (fun x : Pt w => x.h) w g 0 m dk os) := Ut.of_off (put_off dk) hcs (by decide)
    refine (cmpc_any x.h y.h x.p y.p x.ne y.ne _ (x.ir.ut hu) (y.ir.ut hu)).mono ?_
    rintro e w' ⟨he, k, hk⟩
    exact ⟨he, k, #[], by rw [hk, grow_empty]⟩
  have hlt : g < w.heap.size := lt_of_block hcs
  rw [← h2] at ho
  have hcon := slices_SortFunc (fun x : Pt w => x.h) hone (fun x y => cpr (hd x.p : Int) (hd y.p : Int)) swo_hd 37 #[] g 0 c l.toArray w (enters_of Try.func37 (by kernel_rfl) rfl) hlay (holds_own ho) hlt (by simp; omega)
  rw [show l.toArray.size = ps.length by simpa using hll] at hcon
  refine hcon.mono ?_
  rintro e w' ⟨rfl, d', n, os, hp, hso, rfl⟩
  have hds : d'.size = ps.length := hp.1.trans (by simpa using hll)
  have hperm : d'.toList.Perm l := by
    have := hp.2.2
    rw [show (d'.extract 0 ps.length) = d' by rw [← hds]; simp, show (l.toArray.extract 0 ps.length) = l.toArray by rw [← hll]; simp] at this
    simpa using this
  have hu : Ut 3 w (sortWorld (fun x : Pt w => x.h) w g 0 n d' os) := Ut.of_off (put_off d') hcs (by decide)
  refine ⟨rfl, d'.toList.map (·.p), ?_, ?_, ⟨d'.toList.map (·.h), ?_, ?_⟩, put_off d'⟩
  · rw [← h1]; exact hperm.map _
  · rw [List.pairwise_map, List.pairwise_iff_getElem]
    intro i j hi' hj' hij
    simp only [Array.length_toList] at hi' hj'
    have := hso i j (Nat.zero_le _) hij (by omega)
    rw [getElem!_pos d' j hj', getElem!_pos d' i hi'] at this
    unfold ltOf at this
    rw [decide_eq_false_iff_not, cpr_lt] at this
    simp only [Array.getElem_toList]
    omega
  · have := put_own (enc := fun x : Pt w => x.h) (k := n) (os := os) ho d' (by omega)
    simpa [hds, sortWorld] using this
  · intro i p hp
    rw [List.getElem?_map] at hp
    rcases hx : d'.toList[i]? with _ | x
    · rw [hx] at hp; cases hp
    · rw [hx] at hp
      simp only [Option.map_some, Option.some.injEq] at hp
      subst hp
      exact ⟨x.h, by rw [List.getElem?_map, hx]; rfl, x.ir.ut hu⟩

end Go.Proofs.Ytnfjfpiijikniaa.Gp
