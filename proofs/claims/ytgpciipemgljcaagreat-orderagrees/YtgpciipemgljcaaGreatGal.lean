/-
  The chapter's examples, plain: which of two nodes that wait for each other is done first, and what is missing for one alone. No program's function is walked here. No conditions.
-/
import Derived.Test.YtgpciipemgljcaaGreatGae
import Derived.Test.YtgpciipemgljcaaGreatGaf
import Derived.Test.YtgpciipemgljcaaGreatGak
import Derived.Test.YtgpciipemgljcaaGreatGag
namespace Go.Proofs.YtgpciipemgljcaaGreat.Od
open Go.Proofs.YtgpciipemgljcaaGreat.Gp (Rt Out Lf Fr cmp mem_cmp cmp_rises)
set_option linter.unusedVariables false

def xa (h : Option Addr) (c : Nat) : No := ⟨1, 1, 2, [0, 1], h, c⟩
def xb (h : Option Addr) (c : Nat) : No := ⟨2, 1, 1, [1, 0], h, c⟩
section
variable (h h' : Option Addr) (c c' : Nat)
theorem wa_xa {i : Is} : wa (xa h c) i = true ↔ i = (2, 1) := by
  constructor
  · intro k
    have h1 := wa_dep k
    simp only [xa, List.length_cons, List.length_nil] at h1
    obtain ⟨p1, p2, p3, _, p5⟩ := h1
    have e : i.1 = 1 ∨ i.1 = 2 := by omega
    rcases e with e | e
    · rw [e] at p5
      simp at p5
      omega
    · rw [e] at p5
      simp at p5
      ext
      · exact e
      · simp only; omega
  · rintro rfl
    exact At.wt_iff.2 ⟨by decide, by rw [At.dp_in (by decide)]; simp [xa]⟩
theorem wa_xb {i : Is} : wa (xb h c) i = true ↔ i = (1, 1) := by
  constructor
  · intro k
    have h1 := wa_dep k
    simp only [xb, List.length_cons, List.length_nil] at h1
    obtain ⟨p1, p2, p3, _, p5⟩ := h1
    have e : i.1 = 1 ∨ i.1 = 2 := by omega
    rcases e with e | e
    · rw [e] at p5
      simp at p5
      ext
      · exact e
      · simp only; omega
    · rw [e] at p5
      simp at p5
      omega
  · rintro rfl
    exact At.wt_iff.2 ⟨by decide, by rw [At.dp_in (by decide)]; simp [xb]⟩
theorem nr_xa : nr (xa h c) = true := nr_iff.2 ⟨by simp [xa], by simp [xa], by simp [xa], by simp [xa], by simp [xa]⟩
theorem nr_xb : nr (xb h c) = true := nr_iff.2 ⟨by simp [xb], by simp [xb], by simp [xb], by simp [xb], by simp [xb]⟩
theorem xa_i : (xa h c).i = (1, 1) := rfl
theorem xb_i : (xb h c).i = (2, 1) := rfl
theorem cs_two : cs [xa h c, xb h' c'] [] = [xa h c, xb h' c'] := by
  refine same_of_rises (R := fun x y => il x.i y.i) (fun x y h k => il_asym h k) (cs_rises _ _) (by simp [il, xa_i, xb_i]) fun x => ?_
  rw [mem_cs_di (fun x hx y hy e => ?_) (by simp)]
  · constructor
    · intro h; exact h.1
    · intro hx
      refine ⟨hx, ?_, by simp⟩
      simp only [List.mem_cons, List.not_mem_nil, or_false] at hx
      rcases hx with rfl | rfl
      · exact nr_xa _ _
      · exact nr_xb _ _
  · simp only [List.mem_cons, List.not_mem_nil, or_false] at hx hy
    rcases hx with rfl | rfl <;> rcases hy with rfl | rfl
    · rfl
    · rw [xa_i, xb_i] at e; exact absurd e (by decide)
    · rw [xa_i, xb_i] at e; exact absurd e (by decide)
    · rfl
theorem cs_one : cs [xa h c] [] = [xa h c] := by
  refine same_of_rises (R := fun x y => il x.i y.i) (fun x y h k => il_asym h k) (cs_rises _ _) (by simp) fun x => ?_
  rw [mem_cs_di (fun x hx y hy e => ?_) (by simp)]
  · constructor
    · intro h; exact h.1
    · intro hx
      refine ⟨hx, ?_, by simp⟩
      simp only [List.mem_singleton] at hx
      subst hx
      exact nr_xa _ _
  · simp only [List.mem_singleton] at hx hy
    rw [hx, hy]
theorem rd_two : rd [xa h c, xb h' c'] [] = [xa h c, xb h' c'] := by
  have hn : ∀ x ∈ [xa h c, xb h' c'], nr x = true ∧ x.d.length ≤ 7 := fun x hx => by
    simp only [List.mem_cons, List.not_mem_nil, or_false] at hx
    rcases hx with rfl | rfl
    · exact ⟨nr_xa _ _, by simp [xa]⟩
    · exact ⟨nr_xb _ _, by simp [xb]⟩
  have hr : [xa h c, xb h' c'].Pairwise fun x y => il x.i y.i := by simp [il, xa_i, xb_i]
  refine same_of_rises (R := fun x y => il x.i y.i) (fun x y h k => il_asym h k) (rdk_rises [] hr _) hr fun x => ⟨fun hx => rd_in hx, fun hx => ?_⟩
  refine rd_of_cz hn (fun x hx y hy e => Ri.one hr hx hy e) (T := (· ∈ [xa h c, xb h' c'])) ⟨fun _ h => h, fun y hy i hw => .inr ?_⟩ (by simp) hx
  simp only [List.mem_cons, List.not_mem_nil, or_false] at hy
  rcases hy with rfl | rfl
  · exact ⟨xb h' c', by simp, ((wa_xa _ _).1 hw).symm⟩
  · exact ⟨xa h c, by simp, ((wa_xb _ _).1 hw).symm⟩
theorem kn_one : kn [xa h c] [] (2, 1) = false := kn_no.2 ⟨fun n hn e => by
  simp only [List.mem_singleton] at hn
  subst hn
  rw [xa_i] at e
  exact absurd e (by decide), by simp⟩
theorem rd_one : rd [xa h c] [] = [] := by
  refine List.eq_nil_iff_forall_not_mem.2 fun n hn => ?_
  obtain ⟨k, hk, hg⟩ := mem_rd.1 hn
  have hl := gd_iff.1 hg k .refl n hk
  have hnc := List.mem_of_getElem? hk
  have hne : n = xa h c := by simpa using hnc
  subst hne
  have := (lk_iff (D := []) hnc (nr_xa h c) (by simp [xa])).2 ⟨(2, 1), (wa_xa _ _).2 rfl, kn_one h c⟩
  rw [this] at hl; cases hl
theorem ms_one : ms [xa h c] [] = [(2, 1)] := by
  refine same_of_rises (R := il) (fun x y h k => il_asym h k) (ms_rises _ _) (by simp) fun i => ?_
  rw [mem_ms, mp_iff]
  constructor
  · rintro ⟨_, ⟨n, hn, hw⟩, _⟩
    simp only [List.mem_singleton] at hn
    subst hn
    rw [(wa_xa _ _).1 hw]; simp
  · intro hi
    simp only [List.mem_singleton] at hi
    subst hi
    exact ⟨mem_ax.2 (by decide), ⟨xa h c, by simp, (wa_xa _ _).2 rfl⟩, kn_one h c⟩
theorem ls_ba : ls (xb h' c') (xa h c) = true := ls_iff.2 (.inl (by simp [xa, xb]))
theorem rdo_nil {o : List Is} (k : RdO [] o) : o = [] := by
  obtain ⟨parts, hO, rfl⟩ := k
  have := hO.len
  have : parts = [] := List.length_eq_zero_iff.1 (by simpa using this)
  rw [this]; rfl
theorem rdo_two {o : List Is} (k : RdO [xa h c, xb h' c'] o) : o = [(2, 1), (1, 1)] := by
  refine k.one ⟨[[0, 1]], ?_, ?_⟩
  · have e01 : Wg [xa h c, xb h' c'] 0 1 := ⟨_, _, rfl, rfl, (wa_xa _ _).2 rfl⟩
    have e10 : Wg [xa h c, xb h' c'] 1 0 := ⟨_, _, rfl, rfl, (wa_xb _ _).2 rfl⟩
    have hc : cmp (Wg [xa h c, xb h' c']) 2 0 = [0, 1] := by
      refine same_of_rises (R := fun (a b : Nat) => a < b) (fun x y h k => by omega) (cmp_rises 0) (by simp) fun x => ?_
      rw [mem_cmp]
      constructor
      · rintro ⟨h1, _, _⟩
        have : x = 0 ∨ x = 1 := by omega
        simpa using this
      · intro hx
        simp only [List.mem_cons, List.not_mem_nil, or_false] at hx
        rcases hx with rfl | rfl
        · exact ⟨by omega, .refl, .refl⟩
        · exact ⟨by omega, Rt.one e01, Rt.one e10⟩
    have := Out.step (E := Wg [xa h c, xb h' c']) (m := 2) (T := fun _ => False) (k := 0) (r := []) ⟨by omega, fun f => f, fun j hj r => ?_, fun j hj => by omega⟩ (Out.done fun k hk => ?_)
    · rw [hc] at this
      exact this
    · have : j = 0 ∨ j = 1 := by omega
      rcases this with rfl | rfl
      · exact .inl .refl
      · exact .inl (Rt.one e10)
    · rw [hc]
      right
      have : k = 0 ∨ k = 1 := by omega
      simpa using this
  · have hso : so (pn [xa h c, xb h' c'] [0, 1]) = [xb h' c', xa h c] := by
      refine (so_one (p := [xa h c, xb h' c']) (by simp [Ds, xa_i, xb_i]) (List.Perm.swap _ _ _) ?_).symm
      simp only [List.pairwise_cons, List.mem_singleton, forall_eq, List.not_mem_nil, false_implies, implies_true, List.Pairwise.nil, and_true]
      exact ls_asym (ls_ba h h' c c')
    simp [od, hso, xa_i, xb_i]
end
end Go.Proofs.YtgpciipemgljcaaGreat.Od

/-
  The walks of the document's Has, Less and Same, and of the statements' own place. Conditions: at most 1000 instances.
-/
namespace Go.Proofs.YtgpciipemgljcaaGreat.Od
open Go.RowKit
open Go.Proofs.YtgpciipemgljcaaGreat.Gp (below_drewN)
set_option linter.unusedVariables false

theorem eq25 (w : World) (x y u v : Int) : (binOp .eql 25 (.agg #[.int .i64 x, .int .i64 y]) (.agg #[.int .i64 u, .int .i64 v])).run Tryz.prog w = .ok (.bool ((x == u) && (y == v))) w := by
  rw [run_eql_struct, show (10000 : Nat) = 9999 + 1 from rfl, run_equalIn_struct w 9999 25 _ _ (by kernel_rfl) (by kernel_rfl)]
  simp [Op.eqFields, go_sem]
  by_cases h : x = u <;> by_cases k : y = v <;> simp [h, k]
theorem guard25 (w : World) (a b : Operand) (xs ys : Array Value) : (eqGuard .eql 25 a b (.agg xs) (.agg ys)).run Tryz.prog w = .ok () w := run_eqGuard_agg w .eql 25 a b xs ys (by kernel_rfl)
theorem neq25 (w : World) (x y u v : Int) : (binOp .neq 25 (.agg #[.int .i64 x, .int .i64 y]) (.agg #[.int .i64 u, .int .i64 v])).run Tryz.prog w = .ok (.bool (!((x == u) && (y == v)))) w := by
  have := eq25 w x y u v
  rw [run_eql_struct] at this
  rw [run_neq_struct]
  generalize (Op.equalIn 10000 25 (.agg #[.int .i64 x, .int .i64 y]) (.agg #[.int .i64 u, .int .i64 v])).run Tryz.prog w = r at *
  cases r with
  | ok b w' =>
    simp only [Result.andThen_ok, Result.ok.injEq, Value.bool.injEq] at this ⊢
    exact ⟨by rw [this.1], this.2⟩
  | _ => simp at this
theorem guard25n (w : World) (a b : Operand) (xs ys : Array Value) : (eqGuard .neq 25 a b (.agg xs) (.agg ys)).run Tryz.prog w = .ok () w := run_eqGuard_agg w .neq 25 a b xs ys (by kernel_rfl)
theorem same_yes {x y u v : Int} (h : (x, y) = (u, v)) : ((x == u) && (y == v)) = true := by cases h; simp
theorem same_no {x y u v : Int} (h : (x, y) ≠ (u, v)) : ((x == u) && (y == v)) = false := by
  rcases hb : ((x == u) && (y == v)) with _ | _
  · rfl
  · simp at hb; exact absurd (by rw [hb.1, hb.2]) h
attribute [local go_sem ↓ high] eq25 guard25 neq25 guard25n

/-- Nothing of a list's first ones is this. -/
theorem no_step {α : Type} {l : List α} {k : Nat} {x i : α} (hx : l[k]? = some x) (h : ∀ j, j < k → l[j]? ≠ some i) (hn : x ≠ i) : ∀ j, j < k + 1 → l[j]? ≠ some i := fun j hj e => by
  rcases Nat.lt_or_ge j k with h1 | h1
  · exact h j h1 e
  · obtain rfl : j = k := by omega
    rw [hx] at e
    exact hn (Option.some.inj e)
theorem no_mem {α : Type} {l : List α} {i : α} (h : ∀ j, j < l.length → l[j]? ≠ some i) : i ∉ l := fun hi => by
  obtain ⟨j, hj⟩ := List.getElem?_of_mem hi
  exact h j (List.getElem?_eq_some_iff.1 hj).1 hj

set_option maxHeartbeats 1000000 in
theorem has_any (A : Option Addr) (c : Nat) (l : List Is) (i : Is) (r : Bool) (hr : r = decide (i ∈ l)) (hl : l.length ≤ 1000) (w : World) (hs : Il w w.heap.size A l) :
    Calls Tryz.prog 19 #[.slice A l.length c, iv i] w (BoolPost w r) := by
  have HR := Lib.hid hr
  have B0 : Below w.heap.size w (w.alloc (io i)) := (Below.refl _ _).alloc (Nat.le_refl _) _
  have HS := Lib.hid (hs.up B0)
  have J0 := jb_new w i
  obtain ⟨u, v⟩ := i
  simp only [io] at *
  clear hs hr
  go_enter Tryz.func19, Tryz.ntmps19
  go_wp2
  have zb : w.heap.size < (w.alloc (.cells #[.int .i64 u, .int .i64 v] 25)).heap.size := by simp
  have B0k := Lib.hid B0
  clear B0
  generalize w.alloc (.cells #[.int .i64 u, .int .i64 v] 25) = W0 at *
  go_loopg [5] l.length (fun g t wr => ∃ k : Nat, k + g = l.length ∧ t = .int .i64 (k : Int) ∧ Below W0.heap.size W0 wr ∧ Hid (∀ j, j < k → l[j]? ≠ some (u, v)))
  case atStart => exact ⟨0, by omega, rfl, Below.refl _ _, fun j h => by omega⟩
  case round =>
    obtain ⟨k, hk, rfl, hB, hno⟩ := hrel
    obtain ⟨q0, q1⟩ := (J0.on hB zb).jr
    have BW := Lib.hid (B0k.out.trans (hB.mono (Nat.le_of_lt zb)))
    by_cases hlt : k < l.length
    · have hki : (k : Int) < (l.length : Int) := by omega
      have hk0 : (0 : Int) ≤ (k : Int) := by omega
      obtain ⟨b, off, rfl, hb, e0, e1⟩ := (HS.out.below hB (Nat.le_refl _)).at_ (List.getElem?_eq_getElem hlt)
      have HX : Hid (l[k]? = some l[k]) := List.getElem?_eq_getElem hlt
      generalize l[k] = x at *
      obtain ⟨x, y⟩ := x
      simp only at e0 e1 q0 q1
      by_cases he : (x, y) = (u, v)
      · obtain rfl : r = true := by rw [HR.out, ← he]; exact decide_eq_true (List.mem_of_getElem? HX.out)
        have hd := same_yes he
        clear he HR
        go_wp2
        go_quiet (fail)
        go_wp2
        go_ret
        exact ⟨rfl, below_drewN BW.out _⟩
      · have HN := Lib.hid (no_step HX.out hno.out he)
        have hd := same_no he
        clear he hno
        go_wp2
        go_quiet (fail)
        go_wp2
        go_roundg (l.length - (k + 1))
        case measure => omega
        case rel => exact ⟨k + 1, by omega, by go_num, below_drewN hB _, HN.out⟩
    · obtain rfl : k = l.length := by omega
      obtain rfl : r = false := by rw [HR.out]; exact decide_eq_false (no_mem hno.out)
      clear HR
      go_wp2
      go_ret
      exact ⟨rfl, BW.out⟩

/-- Where an instance is first; -1: it is not there. -/
def Pl (l : List Is) (i : Is) (z : Int) : Prop := (z = -1 ∧ i ∉ l) ∨ ∃ k : Nat, z = (k : Int) ∧ l[k]? = some i ∧ ∀ j, j < k → l[j]? ≠ some i
set_option maxHeartbeats 1000000 in
theorem place_any (A : Option Addr) (c : Nat) (l : List Is) (i : Is) (hl : l.length ≤ 1000) (w : World) (hs : Il w w.heap.size A l) :
    Calls Tryz.prog 18 #[.slice A l.length c, iv i] w (fun e w' => ∃ z, e = .returned (.int .i64 z) ∧ Pl l i z ∧ Below w.heap.size w w') := by
  have B0 : Below w.heap.size w (w.alloc (io i)) := (Below.refl _ _).alloc (Nat.le_refl _) _
  have HS := Lib.hid (hs.up B0)
  have J0 := jb_new w i
  obtain ⟨u, v⟩ := i
  simp only [io] at *
  clear hs
  go_enter Tryz.func18, Tryz.ntmps18
  go_wp2
  have zb : w.heap.size < (w.alloc (.cells #[.int .i64 u, .int .i64 v] 25)).heap.size := by simp
  have B0k := Lib.hid B0
  clear B0
  generalize w.alloc (.cells #[.int .i64 u, .int .i64 v] 25) = W0 at *
  go_loopg [5] l.length (fun g t wr => ∃ k : Nat, k + g = l.length ∧ t = .int .i64 (k : Int) ∧ Below W0.heap.size W0 wr ∧ Hid (∀ j, j < k → l[j]? ≠ some (u, v)))
  case atStart => exact ⟨0, by omega, rfl, Below.refl _ _, fun j h => by omega⟩
  case round =>
    obtain ⟨k, hk, rfl, hB, hno⟩ := hrel
    obtain ⟨q0, q1⟩ := (J0.on hB zb).jr
    have BW := Lib.hid (B0k.out.trans (hB.mono (Nat.le_of_lt zb)))
    by_cases hlt : k < l.length
    · have hki : (k : Int) < (l.length : Int) := by omega
      have hk0 : (0 : Int) ≤ (k : Int) := by omega
      obtain ⟨b, off, rfl, hb, e0, e1⟩ := (HS.out.below hB (Nat.le_refl _)).at_ (List.getElem?_eq_getElem hlt)
      have HX : Hid (l[k]? = some l[k]) := List.getElem?_eq_getElem hlt
      generalize l[k] = x at *
      obtain ⟨x, y⟩ := x
      simp only at e0 e1 q0 q1
      by_cases he : (x, y) = (u, v)
      · have HP : Hid (Pl l (u, v) (k : Int)) := .inr ⟨k, rfl, by rw [← he]; exact HX.out, hno.out⟩
        have hd := same_yes he
        clear he hno
        go_wp2
        go_quiet (fail)
        go_wp2
        go_ret
        exact ⟨_, rfl, HP.out, below_drewN BW.out _⟩
      · have HN := Lib.hid (no_step HX.out hno.out he)
        have hd := same_no he
        clear he hno
        go_wp2
        go_quiet (fail)
        go_wp2
        go_roundg (l.length - (k + 1))
        case measure => omega
        case rel => exact ⟨k + 1, by omega, by go_num, below_drewN hB _, HN.out⟩
    · obtain rfl : k = l.length := by omega
      have HP : Hid (Pl l (u, v) (-1)) := .inl ⟨rfl, no_mem hno.out⟩
      clear hno
      go_wp2
      go_ret
      exact ⟨_, rfl, HP.out, BW.out⟩

set_option maxHeartbeats 1000000 in
theorem same_any (A A' : Option Addr) (c c' : Nat) (xs ys : List Is) (r : Bool) (hr : r = decide (xs = ys)) (hl : xs.length ≤ 1000) (w : World) (hx : Il w w.heap.size A xs) (hy : Il w w.heap.size A' ys) :
    Calls Tryz.prog 11 #[.slice A xs.length c, .slice A' ys.length c'] w (BoolPost w r) := by
  have HR := Lib.hid hr
  have HX := Lib.hid hx
  have HY := Lib.hid hy
  clear hr hx hy
  by_cases hlen : xs.length = ys.length
  · have hlen2 : ((xs.length : Int) != (ys.length : Int)) = false := by simp [hlen]
    have HL := Lib.hid hlen
    clear hlen
    go_enter Tryz.func11, Tryz.ntmps11
    go_wp2
    go_loopg [5] xs.length (fun g t wr => ∃ k : Nat, k + g = xs.length ∧ t = .int .i64 (k : Int) ∧ Below w.heap.size w wr ∧ Hid (xs.take k = ys.take k))
    case atStart => exact ⟨0, by omega, rfl, Below.refl _ _, by show _ = _; simp⟩
    case round =>
      obtain ⟨k, hk, rfl, hbel, hpre⟩ := hrel
      by_cases hlt : k < xs.length
      · have hlt' : k < ys.length := by have := HL.out; omega
        have hki : (k : Int) < (xs.length : Int) := by omega
        have hki' : (k : Int) < (ys.length : Int) := by omega
        have hk0 : (0 : Int) ≤ (k : Int) := by omega
        obtain ⟨b, off, rfl, hb, q0, q1⟩ := (HX.out.below hbel (Nat.le_refl _)).at_ (List.getElem?_eq_getElem hlt)
        obtain ⟨b', off', rfl, hb', p0, p1⟩ := (HY.out.below hbel (Nat.le_refl _)).at_ (List.getElem?_eq_getElem hlt')
        have HT : Hid (xs[k] = ys[k] → xs.take (k + 1) = ys.take (k + 1)) := fun e => by
          rw [List.take_succ_eq_append_getElem hlt, List.take_succ_eq_append_getElem hlt', hpre.out, e]
        have HF : Hid (xs[k] ≠ ys[k] → r = false) := fun e => by
          rw [HR.out]
          refine decide_eq_false fun h => e ?_
          subst h; rfl
        generalize xs[k] = x at *
        generalize ys[k] = y at *
        obtain ⟨x1, x2⟩ := x
        obtain ⟨y1, y2⟩ := y
        simp only at q0 q1 p0 p1
        clear hpre
        by_cases he : (x1, x2) = (y1, y2)
        · have HP := Lib.hid (HT.out he)
          have hd := same_yes he
          clear HT HF he
          go_wp2
          go_quiet (fail)
          go_wp2
          go_roundg (xs.length - (k + 1))
          case measure => omega
          case rel => exact ⟨k + 1, by omega, by go_num, below_drewN hbel _, HP.out⟩
        · obtain rfl := HF.out he
          have hd := same_no he
          clear HT HF he
          go_wp2
          go_quiet (fail)
          go_wp2
          go_ret
          exact ⟨rfl, below_drewN hbel _⟩
      · obtain rfl : k = xs.length := by omega
        have HP : Hid (r = true) := by
          show r = true
          rw [HR.out, decide_eq_true_iff]
          have := hpre.out
          rwa [List.take_length, HL.out, List.take_length] at this
        obtain rfl := HP.out
        go_wp2
        go_ret
        exact ⟨rfl, hbel⟩
  · obtain rfl : r = false := by
      rw [HR.out]
      exact decide_eq_false fun h => hlen (by rw [h])
    have hlen2 : ((xs.length : Int) != (ys.length : Int)) = true := by simp; omega
    clear hlen HR
    go_enter Tryz.func11, Tryz.ntmps11
    go_wp2
    go_ret
    exact ⟨rfl, Below.refl _ _⟩

set_option maxHeartbeats 1000000 in
theorem rLess_any (a b : No) (w : World) : Calls Tryz.prog 17 #[nv a, nv b] w (BoolPost w (ls a b)) := by
  have HL : Hid (ls a b = decide (a.q < b.q ∨ a.q = b.q ∧ (a.b < b.b ∨ a.b = b.b ∧ a.s < b.s))) := rfl
  have B0 : Below w.heap.size w ((w.alloc (no a)).alloc (no b)) := ((Below.refl _ _).alloc (Nat.le_refl _) _).alloc (by simp) _
  have P0 := (nb_new w a).old (no b)
  have Q0 := nb_new2 w (no a) b
  obtain ⟨a1, a2, aq, ad, ah, ac⟩ := a
  obtain ⟨b1, b2, bq, bd, bh, bc⟩ := b
  simp only [nv, no] at *
  generalize ls _ _ = r at *
  by_cases h1 : aq = bq
  · by_cases h2 : a1 < b1
    · obtain rfl : r = true := by rw [HL.out]; exact decide_eq_true (.inr ⟨h1, .inl h2⟩)
      clear HL
      have e1 : (aq != bq) = false := by simp [h1]
      clear h1
      go_enter Tryz.func17, Tryz.ntmps17
      go_wp2
      go_ret
      exact ⟨rfl, B0⟩
    · have d2 : decide (a1 < b1) = false := decide_eq_false h2
      by_cases h3 : a1 = b1
      · have e4 : Hid (r = decide (a2 < b2)) := by
          show _ = _
          rw [HL.out]
          simp [h1, h3]
        obtain rfl := e4.out
        clear HL
        have e1 : (aq != bq) = false := by simp [h1]
        have e3 : (a1 == b1) = true := by simp [h3]
        clear h1 h2 h3
        go_enter Tryz.func17, Tryz.ntmps17
        go_wp2
        go_ret
        exact ⟨rfl, B0⟩
      · obtain rfl : r = false := by rw [HL.out]; exact decide_eq_false (by omega)
        clear HL
        have e1 : (aq != bq) = false := by simp [h1]
        have e3 : (a1 == b1) = false := by simp [h3]
        clear h1 h2 h3
        go_enter Tryz.func17, Tryz.ntmps17
        go_wp2
        go_ret
        exact ⟨rfl, B0⟩
  · have e4 : Hid (r = decide (aq < bq)) := by
      show _ = _
      rw [HL.out]
      simp [h1]
    obtain rfl := e4.out
    have e1 : (aq != bq) = true := by simp [h1]
    clear HL h1
    go_enter Tryz.func17, Tryz.ntmps17
    go_wp2
    go_ret
    exact ⟨rfl, B0⟩
end Go.Proofs.YtgpciipemgljcaaGreat.Od

/-
  The walks of awake and Few. Conditions: Few's nodes can be read.
-/
namespace Go.Proofs.YtgpciipemgljcaaGreat.Od
open Go.RowKit
set_option linter.unusedVariables false
attribute [local go_sem ↓ high] eq25 guard25 neq25 guard25n

def UpPost (w : World) (e : Ending) (w' : World) : Prop := e = .returned (.bool true) ∧ Below w.heap.size w w'
set_option maxRecDepth 100000 in
set_option maxHeartbeats 4000000 in
theorem awake_any (w : World) : Calls Tryz.prog 9 #[] w (UpPost w) := by
  have hsz : ∀ (u : World) (o : Obj), (u.alloc o).heap.size = u.heap.size + 1 := fun u o => by simp
  obtain ⟨n, hn⟩ : ∃ n, n = w.heap.size := ⟨_, rfl⟩
  have W4 : Hid (∃ W, W = (((w.alloc (.cells #[.int .i64 0, .int .i64 1] 3)).alloc (no (xa (some ⟨n, 0, none⟩) 2))).alloc (.cells #[.int .i64 1, .int .i64 0] 3)).alloc (no (xb (some ⟨n + 1 + 1, 0, none⟩) 2))) := ⟨_, rfl⟩
  obtain ⟨W, hW⟩ := W4.out
  have A1 := heap_alloc_new w (.cells #[.int .i64 0, .int .i64 1] 3)
  have A2 := heap_alloc_new (w.alloc (.cells #[.int .i64 0, .int .i64 1] 3)) (no (xa (some ⟨n, 0, none⟩) 2))
  have A3 := heap_alloc_new ((w.alloc (.cells #[.int .i64 0, .int .i64 1] 3)).alloc (no (xa (some ⟨n, 0, none⟩) 2))) (.cells #[.int .i64 1, .int .i64 0] 3)
  have A4 := heap_alloc_new (((w.alloc (.cells #[.int .i64 0, .int .i64 1] 3)).alloc (no (xa (some ⟨n, 0, none⟩) 2))).alloc (.cells #[.int .i64 1, .int .i64 0] 3)) (no (xb (some ⟨n + 1 + 1, 0, none⟩) 2))
  have A1' := lay_old (lay_old (lay_old A1 (no (xa (some ⟨n, 0, none⟩) 2))) (.cells #[.int .i64 1, .int .i64 0] 3)) (no (xb (some ⟨n + 1 + 1, 0, none⟩) 2))
  have A2' := lay_old (lay_old A2 (.cells #[.int .i64 1, .int .i64 0] 3)) (no (xb (some ⟨n + 1 + 1, 0, none⟩) 2))
  have A3' := lay_old A3 (no (xb (some ⟨n + 1 + 1, 0, none⟩) 2))
  rw [← hW] at A1' A2' A3' A4
  simp only [hsz, ← hn] at A1' A2' A3' A4
  have hWs : W.heap.size = n + 1 + 1 + 1 + 1 := by rw [hW]; simp [hn]
  have B4 : Below w.heap.size w W := by
    rw [hW]
    exact ((((Below.refl _ _).alloc (Nat.le_refl _) _).alloc (by simp) _).alloc (by simp; omega) _).alloc (by simp; omega) _
  have c00 : W.cell? ⟨n, 0, none⟩ = some (.int .i64 0) := by rw [cell_of_row W n 0 _ 3 _ A1']; rfl
  have c01 : W.cell? ⟨n, 1, none⟩ = some (.int .i64 1) := by rw [cell_of_row W n 1 _ 3 _ A1']; rfl
  have c10 : W.cell? ⟨n + 1 + 1, 0, none⟩ = some (.int .i64 1) := by rw [cell_of_row W (n + 1 + 1) 0 _ 3 _ A3']; rfl
  have c11 : W.cell? ⟨n + 1 + 1, 1, none⟩ = some (.int .i64 0) := by rw [cell_of_row W (n + 1 + 1) 1 _ 3 _ A3']; rfl
  have NA : Nb W (n + 1) (xa (some ⟨n, 0, none⟩) 2) := A2'
  have NB : Nb W (n + 1 + 1 + 1) (xb (some ⟨n + 1 + 1, 0, none⟩) 2) := A4
  have SA : At.Sl W (n + 1 + 1 + 1 + 1) .i64 (some ⟨n, 0, none⟩) [0, 1] := .inr ⟨n, 0, rfl, by omega, fun j x hj => by
    rcases j with _ | _ | j
    · simp at hj; subst hj; exact c00
    · simp at hj; subst hj; exact c01
    · simp at hj⟩
  have SB : At.Sl W (n + 1 + 1 + 1 + 1) .i64 (some ⟨n + 1 + 1, 0, none⟩) [1, 0] := .inr ⟨n + 1 + 1, 0, rfl, by omega, fun j x hj => by
    rcases j with _ | _ | j
    · simp at hj; subst hj; exact c10
    · simp at hj; subst hj; exact c11
    · simp at hj⟩
  have DL2 : Dl W (n + 1 + 1 + 1 + 1) [xa (some ⟨n, 0, none⟩) 2, xb (some ⟨n + 1 + 1, 0, none⟩) 2] := fun x hx => by
    simp only [List.mem_cons, List.not_mem_nil, or_false] at hx
    rcases hx with rfl | rfl
    · exact SA
    · exact SB
  have WF2 : Wf [xa (some ⟨n, 0, none⟩) 2, xb (some ⟨n + 1 + 1, 0, none⟩) 2] := fun x hx => by
    simp only [List.mem_cons, List.not_mem_nil, or_false] at hx
    rcases hx with rfl | rfl <;> (unfold fi fits; simp [xa, xb, No.i])
  have F72 : F7 [xa (some ⟨n, 0, none⟩) 2, xb (some ⟨n + 1 + 1, 0, none⟩) 2] := fun x hx => by
    simp only [List.mem_cons, List.not_mem_nil, or_false] at hx
    rcases hx with rfl | rfl <;> simp [xa, xb]
  have SUB : ∀ x ∈ [xa (some ⟨n, 0, none⟩) 2], x ∈ [xa (some ⟨n, 0, none⟩) 2, xb (some ⟨n + 1 + 1, 0, none⟩) 2] := fun x hx => by
    simp only [List.mem_singleton] at hx
    subst hx; simp
  have R2 : ∀ V, Below (n + 1 + 1 + 1 + 1) W V → n + 1 + 1 + 1 + 1 ≤ V.heap.size → Hid (Calls Tryz.prog 12 #[.slice (some ⟨V.heap.size, 0, none⟩) 2 2, .slice none 0 0] (V.alloc (.cells #[.int .i64 1, .int .i64 1, .int .i64 2, .slice (some ⟨n, 0, none⟩) 2 2, .int .i64 2, .int .i64 1, .int .i64 1, .slice (some ⟨n + 1 + 1, 0, none⟩) 2 2] 30)) (RdPost (V.alloc (.cells #[.int .i64 1, .int .i64 1, .int .i64 2, .slice (some ⟨n, 0, none⟩) 2 2, .int .i64 2, .int .i64 1, .int .i64 1, .slice (some ⟨n + 1 + 1, 0, none⟩) 2 2] 30)) [xa (some ⟨n, 0, none⟩) 2, xb (some ⟨n + 1 + 1, 0, none⟩) 2])) := fun V hV hs => by
    have b := hV.alloc hs (.cells #[.int .i64 1, .int .i64 1, .int .i64 2, .slice (some ⟨n, 0, none⟩) 2 2, .int .i64 2, .int .i64 1, .int .i64 1, .slice (some ⟨n + 1 + 1, 0, none⟩) 2 2] 30)
    have hb := heap_alloc_new V (.cells #[.int .i64 1, .int .i64 1, .int .i64 2, .slice (some ⟨n, 0, none⟩) 2 2, .int .i64 2, .int .i64 1, .int .i64 1, .slice (some ⟨n + 1 + 1, 0, none⟩) 2 2] 30)
    have := Ready_any (some ⟨V.heap.size, 0, none⟩) 2 [xa (some ⟨n, 0, none⟩) 2, xb (some ⟨n + 1 + 1, 0, none⟩) 2] (by simp) (by simp) none 0 [] (by simp) WF2 (fun i hi => by cases hi) F72 (by rw [cs_two]; simp) _ (.inr ⟨V.heap.size, 0, rfl, by simp, fun j x hj => by
      rcases j with _ | _ | j
      · simp at hj; subst hj
        exact ⟨by rw [cell_of_row _ V.heap.size _ _ 30 _ hb]; rfl, by rw [cell_of_row _ V.heap.size _ _ 30 _ hb]; rfl, by rw [cell_of_row _ V.heap.size _ _ 30 _ hb]; rfl, by rw [cell_of_row _ V.heap.size _ _ 30 _ hb]; rfl⟩
      · simp at hj; subst hj
        exact ⟨by rw [cell_of_row _ V.heap.size _ _ 30 _ hb]; rfl, by rw [cell_of_row _ V.heap.size _ _ 30 _ hb]; rfl, by rw [cell_of_row _ V.heap.size _ _ 30 _ hb]; rfl, by rw [cell_of_row _ V.heap.size _ _ 30 _ hb]; rfl⟩
      · simp at hj⟩) (DL2.to b (by simp; omega)) .nil
    rw [cs_two, rd_two] at this
    exact this
  have N1 : ∀ V : World, Hid (Nl (V.alloc (.cells #[.int .i64 1, .int .i64 1, .int .i64 2, .slice (some ⟨n, 0, none⟩) 2 2] 30)) (V.alloc (.cells #[.int .i64 1, .int .i64 1, .int .i64 2, .slice (some ⟨n, 0, none⟩) 2 2] 30)).heap.size (some ⟨V.heap.size, 0, none⟩) [xa (some ⟨n, 0, none⟩) 2]) := fun V => by
    have hb := heap_alloc_new V (.cells #[.int .i64 1, .int .i64 1, .int .i64 2, .slice (some ⟨n, 0, none⟩) 2 2] 30)
    exact .inr ⟨V.heap.size, 0, rfl, by simp, fun j x hj => by
      rcases j with _ | j
      · simp at hj; subst hj
        exact ⟨by rw [cell_of_row _ V.heap.size _ _ 30 _ hb]; rfl, by rw [cell_of_row _ V.heap.size _ _ 30 _ hb]; rfl, by rw [cell_of_row _ V.heap.size _ _ 30 _ hb]; rfl, by rw [cell_of_row _ V.heap.size _ _ 30 _ hb]; rfl⟩
      · simp at hj⟩
  have R1 : ∀ V, Below (n + 1 + 1 + 1 + 1) W V → n + 1 + 1 + 1 + 1 ≤ V.heap.size → Hid (Calls Tryz.prog 12 #[.slice (some ⟨V.heap.size, 0, none⟩) 1 1, .slice none 0 0] (V.alloc (.cells #[.int .i64 1, .int .i64 1, .int .i64 2, .slice (some ⟨n, 0, none⟩) 2 2] 30)) (RdPost (V.alloc (.cells #[.int .i64 1, .int .i64 1, .int .i64 2, .slice (some ⟨n, 0, none⟩) 2 2] 30)) [])) := fun V hV hs => by
    have b := hV.alloc hs (.cells #[.int .i64 1, .int .i64 1, .int .i64 2, .slice (some ⟨n, 0, none⟩) 2 2] 30)
    have := Ready_any (some ⟨V.heap.size, 0, none⟩) 1 [xa (some ⟨n, 0, none⟩) 2] (by simp) (by simp) none 0 [] (by simp) (WF2.sub SUB) (fun i hi => by cases hi) (fun x hx => F72 x (SUB x hx)) (by rw [cs_one]; simp) _ (N1 V).out ((DL2.sub SUB).to b (by simp; omega)) .nil
    rw [cs_one, rd_one] at this
    exact this
  have M1 : ∀ V, Below (n + 1 + 1 + 1 + 1) W V → n + 1 + 1 + 1 + 1 ≤ V.heap.size → Hid (Calls Tryz.prog 14 #[.slice (some ⟨V.heap.size, 0, none⟩) 1 1, .slice none 0 0] (V.alloc (.cells #[.int .i64 1, .int .i64 1, .int .i64 2, .slice (some ⟨n, 0, none⟩) 2 2] 30)) (IsPost (V.alloc (.cells #[.int .i64 1, .int .i64 1, .int .i64 2, .slice (some ⟨n, 0, none⟩) 2 2] 30)) [(2, 1)])) := fun V hV hs => by
    have b := hV.alloc hs (.cells #[.int .i64 1, .int .i64 1, .int .i64 2, .slice (some ⟨n, 0, none⟩) 2 2] 30)
    have := Missing_any (some ⟨V.heap.size, 0, none⟩) 1 [xa (some ⟨n, 0, none⟩) 2] (by simp) (by simp) none 0 [] (by simp) (WF2.sub SUB) (fun i hi => by cases hi) (fun x hx => F72 x (SUB x hx)) (by rw [cs_one]; simp) _ (N1 V).out ((DL2.sub SUB).to b (by simp; omega)) .nil
    rw [cs_one, ms_one] at this
    exact this
  have L1 : ∀ V, Hid (Calls Tryz.prog 16 #[.agg #[.int .i64 2, .int .i64 1, .int .i64 1, .slice (some ⟨n + 1 + 1, 0, none⟩) 2 2], .agg #[.int .i64 1, .int .i64 1, .int .i64 2, .slice (some ⟨n, 0, none⟩) 2 2]] V (BoolPost V true)) := fun V => by
    have := Less_any (xb (some ⟨n + 1 + 1, 0, none⟩) 2) (xa (some ⟨n, 0, none⟩) 2) V
    rw [ls_ba] at this
    exact this
  have HRo := Lib.hid (fun o => rdo_two (some ⟨n, 0, none⟩) (some ⟨n + 1 + 1, 0, none⟩) 2 2 (o := o))
  have HB4 := Lib.hid B4
  have HNA := Lib.hid NA
  have HNB := Lib.hid NB
  have hr2 := (R2 W (Below.refl _ _) (by omega)).out
  rw [hWs] at hr2
  have HR2 := Lib.hid hr2
  have HWs := Lib.hid hWs
  obtain ⟨a0, a1, a2, a3⟩ := NA.nr
  obtain ⟨b0, b1, b2, b3⟩ := NB.nr
  simp only [xa, xb, no, List.length_cons, List.length_nil, Nat.zero_add] at a0 a1 a2 a3 b0 b1 b2 b3 hW
  clear A1 A2 A3 A4 A1' A2' A3' c00 c01 c10 c11 NA NB SA SB DL2 WF2 F72 SUB R2 B4 N1 hsz W4 hr2 hWs
  subst hn
  go_enter Tryz.func9, Tryz.ntmps9
  go_wp2_with fail
  rw [← hW]
  refine HR2.out.mono ?_
  rintro e w5 ⟨v, o, rfl, hrd, ho, b5⟩
  obtain rfl := HRo.out o hrd
  obtain ⟨g, cp, rfl, hg, hgl⟩ := ho.form (by simp)
  have hcg : ∀ j u, (ics [(2, 1), (1, 1)])[j]? = some u → w5.cell? ⟨g, 0 + j, none⟩ = some u := fun j u hu => by
    have := ho.cells (g := g) rfl j u hu
    rwa [Addr.add_lit] at this
  have g0 := hcg 0 _ rfl
  have g1 := hcg 1 _ rfl
  have HB5 : Hid (Below (w.heap.size + 1 + 1 + 1 + 1) W w5) := ((Below.refl _ W).alloc (by rw [HWs.out]; exact Nat.le_refl _) _).trans (b5.mono (by simp; rw [HWs.out]; omega))
  have hs5 : w.heap.size + 1 + 1 + 1 + 1 ≤ w5.heap.size := by have := HB5.out.size; rw [HWs.out] at this; exact this
  have HM1 := M1 w5 HB5.out hs5
  have NA5 := HNA.out.on HB5.out (by omega)
  have NB5 := HNB.out.on HB5.out (by omega)
  obtain ⟨a0', a1', a2', a3'⟩ := NA5.nr
  obtain ⟨b0', b1', b2', b3'⟩ := NB5.nr
  simp only [xa, xb, List.length_cons, List.length_nil, Nat.zero_add] at a0' a1' a2' a3' b0' b1' b2' b3' g0 g1
  clear HR2 hrd ho b5 hcg a0 a1 a2 a3 b0 b1 b2 b3
  go_wp2_with fail
  refine HM1.out.mono ?_
  rintro e w6 ⟨v6, rfl, ho6, b6⟩
  obtain ⟨g6, cp6, rfl, hg6, hgl6⟩ := ho6.form (by simp)
  have hcg : ∀ j u, (ics [(2, 1)])[j]? = some u → w6.cell? ⟨g6, 0 + j, none⟩ = some u := fun j u hu => by
    have := ho6.cells (g := g6) rfl j u hu
    rwa [Addr.add_lit] at this
  have k0 := hcg 0 _ rfl
  have k1 := hcg 1 _ rfl
  have b56 : Below w5.heap.size w5 w6 := ((Below.refl _ w5).alloc (Nat.le_refl _) _).trans (b6.mono (by simp))
  have hgc : ∀ j, w6.cell? ⟨g, j, none⟩ = w5.cell? ⟨g, j, none⟩ := fun j => World.cell?_of_block (b56.block g hgl)
  have g0' := (hgc 0).trans g0
  have g1' := (hgc 1).trans g1
  have NA6 := NA5.on b56 (by omega)
  have NB6 := NB5.on b56 (by omega)
  obtain ⟨a0, a1, a2, a3⟩ := NA6.nr
  obtain ⟨b0, b1, b2, b3⟩ := NB6.nr
  have HB6 := Lib.hid (HB5.out.trans (b56.mono hs5))
  have hs6 : w.heap.size + 1 + 1 + 1 + 1 ≤ w6.heap.size := Nat.le_trans hs5 b56.size
  simp only [xa, xb, List.length_cons, List.length_nil, Nat.zero_add] at a0 a1 a2 a3 b0 b1 b2 b3 k0 k1 g0' g1'
  have hgl2 : g < w6.heap.size := Nat.lt_of_lt_of_le hgl b56.size
  have S0 : ((w6.cell? ⟨g, 0, none⟩ = some (.int .i64 2) ∧ w6.cell? ⟨g, 1, none⟩ = some (.int .i64 1)) ∧ (w6.cell? ⟨g6, 0, none⟩ = some (.int .i64 2) ∧ w6.cell? ⟨g6, 1, none⟩ = some (.int .i64 1)) ∧ (w6.cell? ⟨w.heap.size + 1, 0, none⟩ = some (.int .i64 1) ∧ w6.cell? ⟨w.heap.size + 1, 1, none⟩ = some (.int .i64 1) ∧ w6.cell? ⟨w.heap.size + 1, 2, none⟩ = some (.int .i64 2) ∧ w6.cell? ⟨w.heap.size + 1, 3, none⟩ = some (.slice (some ⟨w.heap.size, 0, none⟩) 2 2)) ∧ (w6.cell? ⟨w.heap.size + 1 + 1 + 1, 0, none⟩ = some (.int .i64 2) ∧ w6.cell? ⟨w.heap.size + 1 + 1 + 1, 1, none⟩ = some (.int .i64 1) ∧ w6.cell? ⟨w.heap.size + 1 + 1 + 1, 2, none⟩ = some (.int .i64 1) ∧ w6.cell? ⟨w.heap.size + 1 + 1 + 1, 3, none⟩ = some (.slice (some ⟨w.heap.size + 1 + 1, 0, none⟩) 2 2)) ∧ Below w6.heap.size w6 w6) := ⟨⟨g0', g1'⟩, ⟨k0, k1⟩, ⟨a0, a1, a2, a3⟩, ⟨b0, b1, b2, b3⟩, Below.refl _ _⟩
  have KS : Hid (∀ v v', Below v.heap.size v v' → ((v.cell? ⟨g, 0, none⟩ = some (.int .i64 2) ∧ v.cell? ⟨g, 1, none⟩ = some (.int .i64 1)) ∧ (v.cell? ⟨g6, 0, none⟩ = some (.int .i64 2) ∧ v.cell? ⟨g6, 1, none⟩ = some (.int .i64 1)) ∧ (v.cell? ⟨w.heap.size + 1, 0, none⟩ = some (.int .i64 1) ∧ v.cell? ⟨w.heap.size + 1, 1, none⟩ = some (.int .i64 1) ∧ v.cell? ⟨w.heap.size + 1, 2, none⟩ = some (.int .i64 2) ∧ v.cell? ⟨w.heap.size + 1, 3, none⟩ = some (.slice (some ⟨w.heap.size, 0, none⟩) 2 2)) ∧ (v.cell? ⟨w.heap.size + 1 + 1 + 1, 0, none⟩ = some (.int .i64 2) ∧ v.cell? ⟨w.heap.size + 1 + 1 + 1, 1, none⟩ = some (.int .i64 1) ∧ v.cell? ⟨w.heap.size + 1 + 1 + 1, 2, none⟩ = some (.int .i64 1) ∧ v.cell? ⟨w.heap.size + 1 + 1 + 1, 3, none⟩ = some (.slice (some ⟨w.heap.size + 1 + 1, 0, none⟩) 2 2)) ∧ Below w6.heap.size w6 v) → ((v'.cell? ⟨g, 0, none⟩ = some (.int .i64 2) ∧ v'.cell? ⟨g, 1, none⟩ = some (.int .i64 1)) ∧ (v'.cell? ⟨g6, 0, none⟩ = some (.int .i64 2) ∧ v'.cell? ⟨g6, 1, none⟩ = some (.int .i64 1)) ∧ (v'.cell? ⟨w.heap.size + 1, 0, none⟩ = some (.int .i64 1) ∧ v'.cell? ⟨w.heap.size + 1, 1, none⟩ = some (.int .i64 1) ∧ v'.cell? ⟨w.heap.size + 1, 2, none⟩ = some (.int .i64 2) ∧ v'.cell? ⟨w.heap.size + 1, 3, none⟩ = some (.slice (some ⟨w.heap.size, 0, none⟩) 2 2)) ∧ (v'.cell? ⟨w.heap.size + 1 + 1 + 1, 0, none⟩ = some (.int .i64 2) ∧ v'.cell? ⟨w.heap.size + 1 + 1 + 1, 1, none⟩ = some (.int .i64 1) ∧ v'.cell? ⟨w.heap.size + 1 + 1 + 1, 2, none⟩ = some (.int .i64 1) ∧ v'.cell? ⟨w.heap.size + 1 + 1 + 1, 3, none⟩ = some (.slice (some ⟨w.heap.size + 1 + 1, 0, none⟩) 2 2)) ∧ Below w6.heap.size w6 v')) := fun v v' hb hS => by
    obtain ⟨⟨h1, h2⟩, ⟨h3, h4⟩, ⟨h5, h6, h7, h8⟩, ⟨h9, h10, h11, h12⟩, hB⟩ := hS
    have z := hB.size
    have hc : ∀ b j, b < w6.heap.size → v'.cell? ⟨b, j, none⟩ = v.cell? ⟨b, j, none⟩ := fun b j hb' => World.cell?_of_block (hb.block b (Nat.lt_of_lt_of_le hb' z))
    exact ⟨⟨(hc _ _ hgl2).trans h1, (hc _ _ hgl2).trans h2⟩, ⟨(hc _ _ hgl6).trans h3, (hc _ _ hgl6).trans h4⟩, ⟨(hc _ _ (by omega)).trans h5, (hc _ _ (by omega)).trans h6, (hc _ _ (by omega)).trans h7, (hc _ _ (by omega)).trans h8⟩, ⟨(hc _ _ (by omega)).trans h9, (hc _ _ (by omega)).trans h10, (hc _ _ (by omega)).trans h11, (hc _ _ (by omega)).trans h12⟩, hB.trans (hb.mono z)⟩
  have KD := Lib.hid (fun v hS => KS.out v v.drew (Below.refl _ _).drew hS)
  have KA := Lib.hid (fun v o hS => KS.out v (v.alloc o) ((Below.refl _ _).alloc (Nat.le_refl _) o) hS)
  have HR1 : Hid (Calls Tryz.prog 12 #[.slice (some ⟨w6.heap.size, 0, none⟩) 1 1, .slice none 0 0] ((w6.alloc (.cells #[.int .i64 1, .int .i64 1, .int .i64 2, .slice (some ⟨w.heap.size, 0, none⟩) 2 2] 30)).drew) (RdPost ((w6.alloc (.cells #[.int .i64 1, .int .i64 1, .int .i64 2, .slice (some ⟨w.heap.size, 0, none⟩) 2 2] 30)).drew) [])) := R1 w6.drew HB6.out.drew hs6
  have HR0 : Hid (Calls Tryz.prog 12 #[.slice (some ⟨w6.heap.size, 0, none⟩) 1 1, .slice none 0 0] ((w6.alloc (.cells #[.int .i64 1, .int .i64 1, .int .i64 2, .slice (some ⟨w.heap.size, 0, none⟩) 2 2] 30)).drew) (fun e w' => (∃ A c, e = .returned (.slice A 0 c)) ∧ Below ((w6.alloc (.cells #[.int .i64 1, .int .i64 1, .int .i64 2, .slice (some ⟨w.heap.size, 0, none⟩) 2 2] 30)).drew).heap.size ((w6.alloc (.cells #[.int .i64 1, .int .i64 1, .int .i64 2, .slice (some ⟨w.heap.size, 0, none⟩) 2 2] 30)).drew) w')) := HR1.out.mono (by
    rintro e w' ⟨v, o, rfl, h1, h2, h3⟩
    obtain rfl := rdo_nil h1
    obtain ⟨A, c, rfl, _⟩ := own_il h2
    exact ⟨⟨A, c, rfl⟩, h3⟩)
  have HL1 := Lib.hid L1
  clear M1 R1 L1 HRo ho6 hcg b6 b56 hgc g0 g1 NA5 NB5 NA6 NB6 a0' a1' a2' a3' b0' b1' b2' b3' HM1
  go_wp2_with fail
  go_region_held3 (fun v => (v.cell? ⟨g, 0, none⟩ = some (.int .i64 2) ∧ v.cell? ⟨g, 1, none⟩ = some (.int .i64 1)) ∧ (v.cell? ⟨g6, 0, none⟩ = some (.int .i64 2) ∧ v.cell? ⟨g6, 1, none⟩ = some (.int .i64 1)) ∧ (v.cell? ⟨w.heap.size + 1, 0, none⟩ = some (.int .i64 1) ∧ v.cell? ⟨w.heap.size + 1, 1, none⟩ = some (.int .i64 1) ∧ v.cell? ⟨w.heap.size + 1, 2, none⟩ = some (.int .i64 2) ∧ v.cell? ⟨w.heap.size + 1, 3, none⟩ = some (.slice (some ⟨w.heap.size, 0, none⟩) 2 2)) ∧ (v.cell? ⟨w.heap.size + 1 + 1 + 1, 0, none⟩ = some (.int .i64 2) ∧ v.cell? ⟨w.heap.size + 1 + 1 + 1, 1, none⟩ = some (.int .i64 1) ∧ v.cell? ⟨w.heap.size + 1 + 1 + 1, 2, none⟩ = some (.int .i64 1) ∧ v.cell? ⟨w.heap.size + 1 + 1 + 1, 3, none⟩ = some (.slice (some ⟨w.heap.size + 1 + 1, 0, none⟩) 2 2)) ∧ Below w6.heap.size w6 v)
    (first | (exact S0) | assumption | (exact KD.out _ S0) | (exact KA.out _ _ (KD.out _ S0)) | (exact KD.out _ (KA.out _ _ S0)) | (refine KS.out _ _ hb1 ?_; first | assumption | exact KD.out _ S0 | exact KA.out _ _ (KD.out _ S0) | exact KD.out _ (KA.out _ _ S0)) | (refine KS.out _ _ hb2 ?_; first | assumption | (refine KS.out _ _ hb1 ?_; first | assumption | exact KA.out _ _ (KD.out _ S0) | exact KD.out _ (KA.out _ _ S0))) | (refine KA.out _ _ ?_; first | assumption | exact KD.out _ S0) | (refine KD.out _ ?_; assumption))
    (first | (go_at_call 12; (with_reducible refine HR0.out.mono ?_); rintro e wa ⟨⟨Aq, cq, rfl⟩, hb1⟩)
           | (go_at_call 16; (with_reducible refine (HL1.out _).out.mono ?_); rintro e wb ⟨rfl, hb2⟩))
  rename_i hHeld
  have HX := Lib.hid (HB4.out.trans ((HB6.out.trans (hHeld.2.2.2.2.mono hs6)).mono (by omega)))
  clear KS KD KA S0 hHeld
  go_wp2
  go_ret
  exact ⟨rfl, HX.out⟩

/-- Few nodes, of few deps. -/
instance (l : List No) : Decidable (F7 l) := by unfold F7; infer_instance
def fw (l : List No) : Bool := decide (l.length ≤ 30 ∧ F7 l)
theorem fw_iff {l : List No} : fw l = true ↔ l.length ≤ 30 ∧ F7 l := decide_eq_true_iff
theorem Few_any (A : Option Addr) (c : Nat) (l : List No) (w : World) (hs : Nl w w.heap.size A l) : Calls Tryz.prog 10 #[.slice A l.length c] w (fun e w' => e = .returned (.bool (fw l)) ∧ w' = w) := by
  have HY : Hid (l.length ≤ 30 → F7 l → fw l = true) := fun h1 h2 => fw_iff.2 ⟨h1, h2⟩
  have HN : Hid (¬ (l.length ≤ 30 ∧ F7 l) → fw l = false) := fun h => by rw [Bool.eq_false_iff]; intro k; exact h (fw_iff.1 k)
  have HS := Lib.hid hs
  generalize fw l = r at *
  clear hs
  by_cases h30 : l.length ≤ 30
  · have d30 : decide ((30 : Int) < (l.length : Int)) = false := decide_eq_false (by omega)
    go_enter Tryz.func10, Tryz.ntmps10
    go_wp2
    go_loopg [3] l.length (fun q t wr => ∃ k : Nat, k + q = l.length ∧ t = .int .i64 (k : Int) ∧ wr = w ∧ Hid (∀ j x, j < k → l[j]? = some x → x.d.length ≤ 7))
    case atStart => exact ⟨0, by omega, rfl, rfl, fun j x h => by omega⟩
    case round =>
      obtain ⟨k, hk, rfl, hW, hno⟩ := hrel
      subst hW
      by_cases hlt : k < l.length
      · have hki : (k : Int) < (l.length : Int) := by omega
        have hk0 : (0 : Int) ≤ (k : Int) := by omega
        have HX := Lib.hid (List.getElem?_eq_getElem hlt)
        obtain ⟨b, off, rfl, hb, p0, p1, p2, p3⟩ := HS.out.at_ HX.out
        have HM := Lib.hid (List.getElem_mem hlt)
        generalize l[k] = x at *
        by_cases h7 : x.d.length ≤ 7
        · have d7 : decide ((7 : Int) < (x.d.length : Int)) = false := decide_eq_false (by omega)
          have HN2 : Hid (∀ j x, j < k + 1 → l[j]? = some x → x.d.length ≤ 7) := fun j y hj hy => by
            rcases Nat.lt_or_ge j k with h | h
            · exact hno.out j y h hy
            · obtain rfl : j = k := by omega
              rw [HX.out] at hy
              cases hy
              exact h7
          go_wp2
          go_roundg (l.length - (k + 1))
          case measure => omega
          case rel => exact ⟨k + 1, by omega, by go_num, by trivial, HN2.out⟩
        · have d7 : decide ((7 : Int) < (x.d.length : Int)) = true := decide_eq_true (by omega)
          have HR := Lib.hid (HN.out fun h => h7 (h.2 x HM.out))
          obtain rfl := HR.out
          go_wp2
          go_ret
          exact ⟨rfl, rfl⟩
      · obtain rfl : k = l.length := by omega
        have HR := Lib.hid (HY.out h30 fun x hx => by
          obtain ⟨j, hj⟩ := List.getElem?_of_mem hx
          exact hno.out j x (List.getElem?_eq_some_iff.1 hj).1 hj)
        obtain rfl := HR.out
        go_wp2
        go_ret
        exact ⟨rfl, rfl⟩
  · have d30 : decide ((30 : Int) < (l.length : Int)) = true := decide_eq_true (by omega)
    have HR := Lib.hid (HN.out fun h => h30 h.1)
    obtain rfl := HR.out
    go_enter Tryz.func10, Tryz.ntmps10
    go_wp2
    go_ret
    exact ⟨rfl, rfl⟩
end Go.Proofs.YtgpciipemgljcaaGreat.Od

/-
  What append makes of rows of nodes, of instances, of the call's own. No program's function is walked here. No conditions.
-/
namespace Go.Proofs.YtgpciipemgljcaaGreat.Od
open Go.RowKit
set_option linter.unusedVariables false

theorem run_app4 (w : World) (base : Nat) (ty : TypeId) (v : Value) (l : List No) (hown : w.ownsRow base 30 4 v l.length (ncs l)) (B : Nat) (A : Option Addr) (c : Nat) (news : List No) (hs : Nl w B A news) (hl : l.length + news.length ≤ 100000) (hbase : base ≤ w.heap.size) :
    ∃ v' w', (Builtin.append_ #[22, 22] ty #[v, .slice A news.length c]).run Tryz.prog w = .ok v' w' ∧ w'.ownsRow base 30 4 v' (l ++ news).length (ncs (l ++ news)) ∧ w.grownBy w' v.ownBlock := by
  obtain ⟨i0, hi, hz0, hz1, hz2⟩ := info_parts info30
  rcases A with _ | ad
  · have hn : news = [] := by
      rcases hs with h | ⟨b, off, h, _⟩
      · exact h
      · cases h
    subst hn
    refine ⟨v, w, ?_, by simpa using hown, World.grownBy.refl w _⟩
    rcases hown.2 with ⟨rfl, h0⟩ | ⟨g, cap, cur, rfl, _, _, hnc, _⟩
    · rw [show Tryz.prog = Tryz.prog from rfl]
      simp [Builtin.append_, run_underlying Tryz.underlying22, sizeOf, typeInfo, hi, Builtin.lenOf, Builtin.firstCells]
    · simp [Builtin.append_, run_underlying Tryz.underlying22, sizeOf, typeInfo, hi, Builtin.lenOf, Builtin.firstCells, hnc, storeCells]
  · obtain ⟨v', w', h1, h2, h3, _⟩ := run_append_own (P := Tryz.prog) w base 22 ty 30 i0 _ 4 48 Tryz.underlying22 hi hz0 hz1 hz2 rfl (by decide) v l.length (ncs l) hown ad news.length c (ncs news) (ncs_len news)
      (fun j u hu => by
        rcases hs with rfl | ⟨b, off, h, _, hc⟩
        · simp [ncs] at hu
        · cases h
          rw [Addr.add_lit]
          exact ncs_read news off hc j u hu) (ncs_one news) (by unfold maxLen; omega) (by omega) hbase
    refine ⟨v', w', h1, ?_, h3⟩
    rw [List.length_append, ncs_append]
    exact h2
/-- append(v, l...) as a step. -/
theorem step_app4 {ops : Array Oper} {o : Oper} {a : Act} {w : World} {K : Act → World → Prop} {Q : Exit → Act → World → Prop} {E : Prop} (hgd : o.guard = none) (s x : Operand)
    (ho : o.op = .call { callee := .builtin .append, args := #[s, x], argTypes := #[22, 22] }) (v : Value) (hv : a.eval s = v) (l : List No) (base : Nat) (hown : w.ownsRow base 30 4 v l.length (ncs l))
    (A : Option Addr) (n c : Nat) (hx : a.eval x = .slice A n c) (news : List No) (hn : n = news.length) (B : Nat) (hs : Nl w B A news) (hl : l.length + news.length ≤ 100000) (hbase : base ≤ w.heap.size)
    (h : ∀ v' w', w'.ownsRow base 30 4 v' (l ++ news).length (ncs (l ++ news)) → w.grownBy w' v.ownBlock → K (a.put o.dst v') w') : if Region.wanted o (yielded ops a.tmps) = true then Oper.wp Tryz.prog o a w K Q else E := by
  subst hn
  have hw : Region.wanted o (yielded ops a.tmps) = true := by simp [Region.wanted, hgd]
  rw [if_pos hw]
  obtain ⟨v', w', hr, h2, h3⟩ := run_app4 w base o.type v l hown B A c news hs hl hbase
  unfold Oper.wp execOp
  simp only [ho, resolve, invoke, builtin, Sem.run_bind, Sem.run_pure, Result.andThen_ok, List.map_toArray, List.map_cons, List.map_nil, hv, hx, hr]
  exact h v' w' h2 h3
theorem wpList_app4 {w : World} {ops : Array Oper} {rest : List Oper} {o : Oper} {a : Act} {Q : Exit → Act → World → Prop} (hgd : o.guard = none) (s x : Operand)
    (ho : o.op = .call { callee := .builtin .append, args := #[s, x], argTypes := #[22, 22] }) (v : Value) (hv : a.eval s = v) (l : List No) (base : Nat) (hown : w.ownsRow base 30 4 v l.length (ncs l))
    (A : Option Addr) (n c : Nat) (hx : a.eval x = .slice A n c) (news : List No) (hn : n = news.length) (B : Nat) (hs : Nl w B A news) (hl : l.length + news.length ≤ 100000) (hbase : base ≤ w.heap.size)
    (h : ∀ v' w', w'.ownsRow base 30 4 v' (l ++ news).length (ncs (l ++ news)) → w.grownBy w' v.ownBlock → wpList Tryz.prog ops Q rest (a.put o.dst v') w') : wpList Tryz.prog ops Q (o :: rest) a w := by
  subst hn
  obtain ⟨v', w', hr, h2, h3⟩ := run_app4 w base o.type v l hown B A c news hs hl hbase
  refine wpList_plain hgd fun K hK => ?_
  unfold Oper.wp execOp
  simp only [ho, resolve, invoke, builtin, Sem.run_bind, Sem.run_pure, Result.andThen_ok, List.map_toArray, List.map_cons, List.map_nil, hv, hx, hr]
  exact hK _ _ (h v' w' h2 h3)
theorem run_appI (w : World) (base : Nat) (ty : TypeId) (v : Value) (l : List Is) (hown : w.ownsRow base 25 2 v l.length (ics l)) (B : Nat) (A : Option Addr) (c : Nat) (news : List Is) (hs : Il w B A news) (hl : l.length + news.length ≤ 100000) (hbase : base ≤ w.heap.size) :
    ∃ v' w', (Builtin.append_ #[23, 23] ty #[v, .slice A news.length c]).run Tryz.prog w = .ok v' w' ∧ w'.ownsRow base 25 2 v' (l ++ news).length (ics (l ++ news)) ∧ w.grownBy w' v.ownBlock := by
  obtain ⟨i0, hi, hz0, hz1, hz2⟩ := info_parts info25
  rcases A with _ | ad
  · have hn : news = [] := by
      rcases hs with h | ⟨b, off, h, _⟩
      · exact h
      · cases h
    subst hn
    refine ⟨v, w, ?_, by simpa using hown, World.grownBy.refl w _⟩
    rcases hown.2 with ⟨rfl, h0⟩ | ⟨g, cap, cur, rfl, _, _, hnc, _⟩
    · rw [show Tryz.prog = Tryz.prog from rfl]
      simp [Builtin.append_, run_underlying Tryz.underlying23, sizeOf, typeInfo, hi, Builtin.lenOf, Builtin.firstCells]
    · simp [Builtin.append_, run_underlying Tryz.underlying23, sizeOf, typeInfo, hi, Builtin.lenOf, Builtin.firstCells, hnc, storeCells]
  · obtain ⟨v', w', h1, h2, h3, _⟩ := run_append_own (P := Tryz.prog) w base 23 ty 25 i0 _ 2 16 Tryz.underlying23 hi hz0 hz1 hz2 rfl (by decide) v l.length (ics l) hown ad news.length c (ics news) (ics_len news)
      (fun j u hu => by
        rcases hs with rfl | ⟨b, off, h, _, hc⟩
        · simp [ics] at hu
        · cases h
          rw [Addr.add_lit]
          exact ics_read news off hc j u hu) (ics_one news) (by unfold maxLen; omega) (by omega) hbase
    refine ⟨v', w', h1, ?_, h3⟩
    rw [List.length_append, ics_append]
    exact h2
/-- append(v, l...) as a step. -/
theorem step_appI {ops : Array Oper} {o : Oper} {a : Act} {w : World} {K : Act → World → Prop} {Q : Exit → Act → World → Prop} {E : Prop} (hgd : o.guard = none) (s x : Operand)
    (ho : o.op = .call { callee := .builtin .append, args := #[s, x], argTypes := #[23, 23] }) (v : Value) (hv : a.eval s = v) (l : List Is) (base : Nat) (hown : w.ownsRow base 25 2 v l.length (ics l))
    (A : Option Addr) (n c : Nat) (hx : a.eval x = .slice A n c) (news : List Is) (hn : n = news.length) (B : Nat) (hs : Il w B A news) (hl : l.length + news.length ≤ 100000) (hbase : base ≤ w.heap.size)
    (h : ∀ v' w', w'.ownsRow base 25 2 v' (l ++ news).length (ics (l ++ news)) → w.grownBy w' v.ownBlock → K (a.put o.dst v') w') : if Region.wanted o (yielded ops a.tmps) = true then Oper.wp Tryz.prog o a w K Q else E := by
  subst hn
  have hw : Region.wanted o (yielded ops a.tmps) = true := by simp [Region.wanted, hgd]
  rw [if_pos hw]
  obtain ⟨v', w', hr, h2, h3⟩ := run_appI w base o.type v l hown B A c news hs hl hbase
  unfold Oper.wp execOp
  simp only [ho, resolve, invoke, builtin, Sem.run_bind, Sem.run_pure, Result.andThen_ok, List.map_toArray, List.map_cons, List.map_nil, hv, hx, hr]
  exact h v' w' h2 h3
theorem wpList_appI {w : World} {ops : Array Oper} {rest : List Oper} {o : Oper} {a : Act} {Q : Exit → Act → World → Prop} (hgd : o.guard = none) (s x : Operand)
    (ho : o.op = .call { callee := .builtin .append, args := #[s, x], argTypes := #[23, 23] }) (v : Value) (hv : a.eval s = v) (l : List Is) (base : Nat) (hown : w.ownsRow base 25 2 v l.length (ics l))
    (A : Option Addr) (n c : Nat) (hx : a.eval x = .slice A n c) (news : List Is) (hn : n = news.length) (B : Nat) (hs : Il w B A news) (hl : l.length + news.length ≤ 100000) (hbase : base ≤ w.heap.size)
    (h : ∀ v' w', w'.ownsRow base 25 2 v' (l ++ news).length (ics (l ++ news)) → w.grownBy w' v.ownBlock → wpList Tryz.prog ops Q rest (a.put o.dst v') w') : wpList Tryz.prog ops Q (o :: rest) a w := by
  subst hn
  obtain ⟨v', w', hr, h2, h3⟩ := run_appI w base o.type v l hown B A c news hs hl hbase
  refine wpList_plain hgd fun K hK => ?_
  unfold Oper.wp execOp
  simp only [ho, resolve, invoke, builtin, Sem.run_bind, Sem.run_pure, Result.andThen_ok, List.map_toArray, List.map_cons, List.map_nil, hv, hx, hr]
  exact hK _ _ (h v' w' h2 h3)
end Go.Proofs.YtgpciipemgljcaaGreat.Od
