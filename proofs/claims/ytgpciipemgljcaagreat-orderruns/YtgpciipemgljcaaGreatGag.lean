/-
  The walks of slices.AppendSeq and slices.Collect over the iterator of missing instances. Conditions: at most 1000 deps, each at most 1000.
-/
import Derived.Test.YtgpciipemgljcaaGreatGaf
import Derived.Maps.OwnIn
import Derived.Test.YtgpciipemgljcaaGreatGae
import Derived.Deep.RegionHeld3
import Derived.Deep.DrawnRows
import Derived.Deep.QuietTactic
import Derived.BigQuiet
import Derived.Deep.RegionLaw
import Derived.Deep.AppendLies
namespace Go.Proofs.YtgpciipemgljcaaGreat.Od
open Go.RowKit Go.Shelf
set_option linter.unusedVariables false
attribute [local go_sem] Oper.semAt_some

theorem own_form {w : World} {base : Nat} {e : TypeId} {size : Nat} {v : Value} {n : Nat} {xs : List Value} (h : w.ownsRow base e size v n xs) : v = .slice none 0 0 ∨ ∃ g c, v = .slice (some ⟨g, 0, none⟩) n c := by
  rcases h.2 with ⟨h1, _⟩ | ⟨g, cap, cur, h1, _⟩
  · exact .inl h1
  · exact .inr ⟨g, cap, h1⟩
/-- A round that appends to the row that lies in box B. -/
theorem kr_app {W w1 : World} {n₀ B : Nat} {t e : TypeId} {size : Nat} {v v' : Value} {k m : Nat} {xs ys : List Value} {tmp : Obj}
    (hv : Boxed W B t v) (hte : t ≠ e) (hrow : W.ownsRow n₀ e size v k xs) (hn₀ : n₀ ≤ W.heap.size) (hB : n₀ ≤ B) (hown' : w1.ownsRow n₀ e size v' m ys) (hgrow : (W.alloc tmp).grownBy w1 v.ownBlock) (hat : v'.ownBlock = v.ownBlock ∨ v'.ownBlock = some (W.alloc tmp).heap.size) :
    Kr n₀ B W (w1.setCell ⟨B, 0, none⟩ v') := by
  obtain ⟨h1, h2, h3, h4, h5⟩ := hv.appended hte hrow hn₀ hB hown' hgrow
  refine ⟨h5, fun r cs t' hr hne hrw => ?_, fun r hr => ?_⟩
  · rw [Below.heap_setCell _ ⟨B, 0, none⟩ _ r hne]
    have hl : r < W.heap.size := (Array.getElem?_eq_some_iff.1 hr).1
    refine ((hgrow.block r (by simp; omega) fun ej => hrw ?_).trans (heap_alloc_old W tmp hl)).trans hr
    rcases own_form hrow with rfl | ⟨g, c, rfl⟩
    · simp [Value.ownBlock] at ej
    · obtain rfl : r = g := by simpa [Value.ownBlock] using ej
      exact ⟨_, _, _, hv.cell, rfl⟩
  · obtain ⟨a, n, c, hc, rfl⟩ := hr
    rw [h2.cell] at hc
    cases hc
    have hob : (Value.slice (some a) n c).ownBlock = some a.block := by
      rcases own_form hown' with h | ⟨g, c', h⟩
      · cases h
      · cases h; rfl
    rw [hob] at hat
    rcases hat with hat | hat
    · left
      rcases own_form hrow with rfl | ⟨g, c', rfl⟩
      · simp [Value.ownBlock] at hat
      · obtain rfl : a.block = g := by simpa [Value.ownBlock] using hat
        exact ⟨_, _, _, hv.cell, rfl⟩
    · right
      have h8 := (hown'.lt _ hob).2
      simp at hat h8 ⊢
      omega
/-- What a block holds is told by cells alone. -/
theorem lay_own {β : Type} (B : Nat) (t : TypeId) (f : β → Array Value) : Own (fun s W => W.heap[B]? = some (.cells (f s) t (0, 0))) := fun s X Y row hs hg hrow => by
  have hlt : B < X.heap.size := lt_of_block hs
  refine (hg.block B hlt ?_).trans hs
  intro e
  obtain ⟨o, ho, hc⟩ := hrow B e.symm
  rw [hs] at ho
  cases ho
  cases hc
theorem size_own {β : Type} (B k : Nat) : OwnFrom B (fun (_ : β) W => k ≤ W.heap.size) := fun _ _ _ _ hs hg _ => Nat.le_trans hs hg.size
theorem kr_alloc {n₀ B : Nat} (W : World) (o : Obj) (hn : n₀ ≤ W.heap.size) (hB : B < W.heap.size) : Kr n₀ B W (W.alloc o) :=
  ⟨(Below.refl _ _).alloc hn _, fun r cs t hr _ _ => lay_old hr o, fun r hr => .inl ((rw_same (heap_alloc_old W o hB) r).1 hr)⟩
theorem cell_two_new (w : World) (x y : Value) (t : TypeId) : ∀ j u, [x, y][j]? = some u → (w.alloc (.cells #[x, y] t)).cell? ((⟨w.heap.size, 0, none⟩ : Addr).add j) = some u := by
  intro j u hj
  match j, hj with
  | 0, hj => simp at hj; subst hj; simp [Addr.add]
  | 1, hj => simp at hj; subst hj; simp [Addr.add]
theorem cell_four_new (w : World) (x y z v : Value) (t : TypeId) : ∀ j u, [x, y, z, v][j]? = some u → (w.alloc (.cells #[x, y, z, v] t)).cell? ((⟨w.heap.size, 0, none⟩ : Addr).add j) = some u := by
  intro j u hj
  match j, hj with
  | 0, hj => simp at hj; subst hj; simp [Addr.add]
  | 1, hj => simp at hj; subst hj; simp [Addr.add]
  | 2, hj => simp at hj; subst hj; simp [Addr.add]
  | 3, hj => simp at hj; subst hj; simp [Addr.add]

/-- The call gave a row of its own of these instances. -/
def IsPost (w : World) (l : List Is) (e : Ending) (w' : World) : Prop := ∃ v, e = .returned v ∧ w'.ownsRow w.heap.size 25 2 v l.length (ics l) ∧ Below w.heap.size w w'

set_option maxRecDepth 100000 in
set_option maxHeartbeats 4000000 in
theorem seqI_any (Ba Bt K D : Nat) (q : Int) (A : Option Addr) (c : Nat) (xs : List Int) (cf : Is → Option No) (Dn : List Is) (hl : xs.length ≤ 1000) (hx : ∀ x ∈ xs, x ≤ 1000) (w : World) (hM : Mi w w.heap.size Ba Bt K D q A c xs cf Dn) :
    Calls Tryz.prog 64 #[.slice none 0 0, .func (.func 65) #[] #[.pointer (some ⟨Ba, 0, none⟩), .pointer (some ⟨Bt, 0, none⟩)]] w (IsPost w (mq xs (kw cf Dn) xs.length)) := by
  obtain ⟨i0, hi, hz0, hz1, hz2⟩ := info_parts info25
  refine (callsIn_wide (n := 6)).1 ?_
  refine callsIn_of_wp_marks Tryz.func64 rfl trivial ?_ rfl
  simp only [Tryz.ntmps64, List.size_toArray, List.length_cons, List.length_nil, Nat.reduceAdd, Nat.reduceSub, Array.replicate_succ, Array.replicate_zero, List.push_toArray, List.append_toArray, List.nil_append, List.cons_append]
  gi_wp2
  have B0 : Below w.heap.size w (w.alloc (.cells #[.slice none 0 0] 23)) := (Below.refl _ w).alloc (Nat.le_refl _) _
  have bv := Boxed.new w 23 (.slice none 0 0)
  have sz : (w.alloc (.cells #[.slice none 0 0] 23)).heap.size = w.heap.size + 1 := by simp
  obtain ⟨W0, hW0⟩ : ∃ W0, w.alloc (.cells #[.slice none 0 0] 23) = W0 := ⟨_, rfl⟩
  rw [hW0] at B0 bv sz ⊢
  clear hW0
  have hM0 := hM.on B0
  have hMk : Mk W0 w.heap.size := ⟨by omega, fun r hr => by
    obtain ⟨a, n, c, hc, _⟩ := hr
    rw [bv.cell] at hc
    cases hc⟩
  refine wpIn_rangeFunc_ownH rfl (by omega) (gf := 65) (lb := #[.pointer (some ⟨Ba, 0, none⟩), .pointer (some ⟨Bt, 0, none⟩)]) rfl trivial (enters_of Tryz.func65 (by kernel_rfl) rfl)
    (mi_stops (6 - 1) (by omega) w.heap.size w.heap.size Ba Bt K D q A c xs cf Dn hl hx W0 hM0 hMk) kr_t (kr_b (by omega) (by omega)) (Below.refl _ _) (fun _ => rfl)
    (fun pre W => (∃ v, Boxed W w.heap.size 23 v ∧ W.ownsRow w.heap.size 25 2 v pre.length (ics pre) ∧ True) ∧ (Below w.heap.size w W ∧ w.heap.size + 1 ≤ W.heap.size))
    (fun _ _ _ => False)
    (OwnFrom.and (Own.from (holdsRow_own w.heap.size w.heap.size 23 25 2 (fun pre : List Is => pre.length) (fun pre => ics pre) (fun _ _ => True)) _) (OwnFrom.and (ownFrom_below (Nat.le_refl _) (by omega)) (size_own _ _)))
    (fun _ _ _ _ _ hs _ _ => hs)
    ⟨⟨_, bv, World.ownsRow_nil _ _ _ _, trivial⟩, B0, by omega⟩
    (fun x a' W => ∃ Bx, w.heap.size < Bx ∧ Jb W Bx x ∧ a' = { tmps := #[.slice none 0 0, .func (.func 65) #[] #[.pointer (some ⟨Ba, 0, none⟩), .pointer (some ⟨Bt, 0, none⟩)], .pointer (some ⟨w.heap.size, 0, none⟩), undef, .slice none 0 0, .pointer (some ⟨Bx, 0, none⟩), .func (.func 65) #[] #[.pointer (some ⟨Ba, 0, none⟩), .pointer (some ⟨Bt, 0, none⟩)], iv x, undef, undef, undef, undef, undef], defers := [] })
    (fun x a' _ X Y row hs hg hr => by obtain ⟨Bx, h1, h2, h3⟩ := hs; exact ⟨Bx, h1, lay_own Bx 25 (fun (_ : Unit) => #[.int .i64 x.1, .int .i64 x.2]) () X Y row h2 hg (fun r e => (hr r e).2), h3⟩)
    ?assign ?body ?done ?stop
  case assign =>
    rintro l pre x W K ⟨⟨v, b1, ho, _⟩, hB, hZ⟩ hK
    have hsW := hB.size
    gi_wp2
    exact hK _ _ ((KeepsOthers.alloc _ _).from _) (kr_alloc W _ hsW (by omega)) ⟨⟨v, b1.alloc _, ho.alloc _, trivial⟩, hB.alloc hsW _, by simp; omega⟩ ⟨W.heap.size, by omega, jb_new W x, rfl⟩
  case body =>
    rintro l pre x a' W hlw ⟨r, hr⟩ ⟨⟨v, b1, ho, _⟩, hB, hZ⟩ ⟨Bx, hBx, jb, rfl⟩ hlt
    have cv := b1.cell
    have fv := b1.frozen
    obtain ⟨p0, p1⟩ := jb.jr
    have hjl := jb.lt
    have hsW := hB.size
    gi_wp2_with (gi_at_builtin; refine wpListIn_append_own_at _ rfl _ _ 23 rfl w.heap.size 25 i0 (.agg #[.int .i64 0, .int .i64 0]) 2 16 Tryz.underlying23 hi hz0 hz1 hz2 rfl (by decide) v pre.length (ics pre) rfl (ho.alloc _) ⟨W.heap.size, 0, none⟩ 1 1 [.int .i64 x.1, .int .i64 x.2] rfl rfl (cell_two_new _ _ _ _) (by simp [Value.oneCell']) (by unfold maxLen; omega) (by omega) (by simp; omega) ?_; intro v' w1 hown' hgrow _ hat'; obtain ⟨g', cap', rfl⟩ := ownsRow_succ hown'; obtain ⟨hv1, hv2, hr2, hk2, hb2⟩ := b1.appended (by decide) ho hB.size (Nat.le_refl _) hown' hgrow; have hkr := kr_app b1 (by decide) ho hB.size (Nat.le_refl _) hown' hgrow hat'; have hc1 := hv1.cell; have hf1 := hv1.frozen)
    have hr3 : (w1.setCell ⟨w.heap.size, 0, none⟩ (.slice (some ⟨g', 0, none⟩) (pre.length + 1) cap')).ownsRow w.heap.size 25 2 (.slice (some ⟨g', 0, none⟩) (pre.length + 1) cap') (pre ++ [x]).length (ics (pre ++ [x])) := by
      rw [List.length_append, ics_append]
      exact hr2
    gi_wp2
    exact ⟨hk2.from _, hkr, ⟨_, hv2, hr3, trivial⟩, hB.trans hb2, Nat.le_trans hZ (hb2.size)⟩
  case done =>
    rintro D' ys W hD rfl ⟨⟨v, b1, ho, _⟩, hB, hZ⟩ hK
    have c1 := b1.cell
    gi_wp2
    refine ⟨by simp, .inl ⟨_, _, rfl, run_takeDeferred hK, ?_⟩⟩
    exact ⟨_, results_tmp rfl _ _ _, v, rfl, ownsRow_putObj ho _ hK rfl, hB.trans (belowK_b (w := w) (Nat.le_refl _) W D' _ _ (by omega) hK rfl rfl)⟩
  case stop =>
    rintro D c pre W _ _ h _
    exact h.elim

theorem collectI_any (Ba Bt K D : Nat) (q : Int) (A : Option Addr) (c : Nat) (xs : List Int) (cf : Is → Option No) (Dn : List Is) (hl : xs.length ≤ 1000) (hx : ∀ x ∈ xs, x ≤ 1000) (w : World) (hM : Mi w w.heap.size Ba Bt K D q A c xs cf Dn) :
    Calls Tryz.prog 36 #[.func (.func 65) #[] #[.pointer (some ⟨Ba, 0, none⟩), .pointer (some ⟨Bt, 0, none⟩)]] w (IsPost w (mq xs (kw cf Dn) xs.length)) := by
  have H := Lib.hid (seqI_any Ba Bt K D q A c xs cf Dn hl hx w hM)
  clear hM
  go_enter Tryz.func36, Tryz.ntmps36
  go_wp2_with fail
  refine H.out.mono ?_
  rintro e w1 ⟨v, rfl, ho, hB⟩
  go_wp2
  go_ret
  exact ⟨v, rfl, ho, hB⟩
end Go.Proofs.YtgpciipemgljcaaGreat.Od

/-
  The walk of the iterator that maps.Values hands back, and its contract: each value of the map once, in whatever order. Conditions: at most 100 nodes count.
-/
namespace Go.Proofs.YtgpciipemgljcaaGreat.Od
open Go.RowKit Go.Shelf
set_option linter.unusedVariables false
attribute [local go_sem] Oper.semAt_some

/-- What a round keeps: all below n₀, and walks over maps. -/
def Kv (n₀ : Nat) (W W' : World) : Prop := Below n₀ W W' ∧ KeepsWalks W W'
theorem kv_t {n₀ : Nat} {A B C : World} (h : Kv n₀ A B) (k : Kv n₀ B C) : Kv n₀ A C := ⟨h.1.trans k.1, h.2.trans k.2⟩
theorem kv_b {n₀ : Nat} {w : World} (hn : n₀ ≤ w.heap.size) (W : World) (l : Nat) (o o' : Obj) (hl : w.heap.size ≤ l) (h : W.heap[l]? = some o) (h1 : o.isCells = false) (h2 : o.isWalk = false) : Kv n₀ W (W.putObj l o') := ⟨belowK_b hn W l o o' hl h h1 h2, KeepsWalks.putObj _ h h2⟩

/-- The nodes that count, as one list. -/
structure Cf (cf : Is → Option No) (cl : List No) : Prop where
  i : ∀ a n, cf a = some n → n.i = a
  m : ∀ n, cf n.i = some n ↔ n ∈ cl
  l : cl.length ≤ 100
/-- These have come. -/
structure Cm (cf : Is → Option No) (left : Is → Prop) (pre : List No) : Prop where
  d : Ds pre
  m : ∀ n, n ∈ pre ↔ cf n.i = some n ∧ ¬ left n.i
theorem Cm.few {cf : Is → Option No} {cl : List No} {left : Is → Prop} {pre : List No} (h : Cm cf left pre) (c : Cf cf cl) : pre.length ≤ 100 := by
  have hn : pre.Nodup := h.d.imp fun k e => k (by rw [e])
  exact Nat.le_trans (hn.length_le_of_subset fun x hx => (c.m x).1 ((h.m x).1 hx).1) c.l
theorem Cm.more {cf : Is → Option No} {cl : List No} {left : Is → Prop} {pre : List No} {n : No} (h : Cm cf left pre) (c : Cf cf cl) (hl : left n.i) (hc : cf n.i = some n) : Cm cf (fun x => left x ∧ x ≠ n.i) (pre ++ [n]) := by
  refine ⟨?_, fun x => ?_⟩
  · unfold Ds
    rw [List.pairwise_append]
    refine ⟨h.d, by simp, fun a ha b hb => ?_⟩
    obtain rfl : b = n := by simpa using hb
    intro e
    have := ((h.m a).1 ha).2
    rw [e] at this
    exact this hl
  · rw [List.mem_append, h.m]
    constructor
    · rintro (⟨h1, h2⟩ | hx)
      · exact ⟨h1, fun k => h2 k.1⟩
      · obtain rfl : x = n := by simpa using hx
        exact ⟨hc, fun k => k.2 rfl⟩
    · rintro ⟨h1, h2⟩
      by_cases e : x.i = n.i
      · rw [e, hc] at h1
        cases h1
        exact .inr (by simp)
      · exact .inl ⟨h1, fun k => h2 ⟨k, e⟩⟩

set_option maxRecDepth 100000 in
set_option maxHeartbeats 4000000 in
theorem va_in (m : Nat) (hm : 1 ≤ m) (l n₀ Bm K c : Nat) (cf : Is → Option No) (cl : List No) (hcf : Cf cf cl) (hK : K < n₀) (J Jx : List No → World → Prop)
    (n₁ : Nat) (hJ : AbidesFrom n₁ J)
    (hY : ∀ pre x W, J pre W → pre.length < 1000 → YieldAt Fence.wide (m - 1) Tryz.prog l #[nv x] W fun e W' => (e = .returned (.bool true) ∧ J (pre ++ [x]) W' ∧ Kv n₀ W W') ∨ (e = .returned (.bool false) ∧ Jx (pre ++ [x]) W'))
    (W : World) (hn1 : n₁ ≤ W.heap.size) (hn : n₀ ≤ W.heap.size) (hB : W.heap[Bm]? = some (.cells #[.map (some K)] 48 (0, 0))) (hMo : Mo dI W.heap[K]? (fun i => (cf i).map nv) c) (h0 : J [] W) :
    CallsIn Fence.wide m Tryz.prog 74 #[.func (.yield l) #[] #[], .pointer (some ⟨Bm, 0, none⟩)] W fun e W' => (∃ v, e = .returned v) ∧ ((∃ ys, (Ds ys ∧ ∀ n, n ∈ ys ↔ n ∈ cl) ∧ J ys W') ∨ (∃ pre, True ∧ Jx pre W')) := by
  have cB : W.cell? ⟨Bm, 0, none⟩ = some (.map (some K)) := by rw [cell_of_row W Bm 0 _ 48 _ hB]; rfl
  obtain ⟨oi, hrange, cnt, hRg⟩ := hMo.range Tryz.underlying48 K W rfl
  have HJ := Lib.hid hJ
  have HY := Lib.hid hY
  have HC := Lib.hid hcf
  have BA : Below W.heap.size W (W.alloc oi) := (Below.refl _ _).alloc (Nat.le_refl _) _
  have hR0 : Rg dI K (W.alloc oi).heap[K]? (W.alloc oi).heap[W.heap.size]? (fun i => (cf i).map nv) (fun a => ∃ v, (cf a).map nv = some v) cnt := by
    rw [heap_alloc_old _ _ (by omega), heap_alloc_new]; exact hRg
  have hJ0 : J [] (W.alloc oi) := HJ.out _ _ _ none h0 (grown_none BA) (fun r e => by cases e)
  have hC0 : Cm cf (fun a => ∃ v, (cf a).map nv = some v) [] := ⟨by simp [Ds], fun n => by
    constructor
    · intro h; cases h
    · rintro ⟨h1, h2⟩; exact absurd ⟨_, by rw [h1]; rfl⟩ h2⟩
  have hr0 : W.heap.size < (W.alloc oi).heap.size := by simp
  have HR0 := Lib.hid hR0
  have HJ0 := Lib.hid hJ0
  have HC0 := Lib.hid hC0
  have HRN := Lib.hid hr0
  clear hB hY hJ hcf hRg hR0 hMo hC0 BA h0 hJ0 hr0
  refine callsIn_of_wp Tryz.func74 rfl trivial ?_ rfl
  simp only [Tryz.ntmps74, List.size_toArray, List.length_cons, List.length_nil, Nat.reduceAdd, Nat.reduceSub, Array.replicate_succ, Array.replicate_zero, List.push_toArray, List.append_toArray, List.nil_append, List.cons_append]
  gi_wp2
  generalize W.heap.size = r at *
  generalize W.alloc oi = W1 at *
  gi_loopg [7] cnt (fun g _ wr => ∃ (pre : List No) (left : Is → Prop), Hid (Rg dI K wr.heap[K]? wr.heap[r]? (fun i => (cf i).map nv) left g) ∧ Hid (Cm cf left pre) ∧ Hid (J pre wr) ∧ r < wr.heap.size)
  case atStart => exact ⟨[], _, HR0.out, HC0.out, HJ0.out, HRN.out⟩
  case round =>
    obtain ⟨pre, left, hR, hCm, hJp, hrl⟩ := hrel
    clear HR0 HC0 HJ0 HRN cB hrange
    rcases hR.out.next goodI 0 with ⟨hno, hrun⟩ | ⟨a, v, w5, cnt3, hok, hla, hfa, hrun, hR1, hcnt, hgr, hsz, hen⟩
    · have HF : Hid (Ds pre ∧ ∀ n, n ∈ pre ↔ n ∈ cl) := ⟨hCm.out.d, fun n => by
        rw [hCm.out.m, ← HC.out.m]
        exact ⟨fun h => h.1, fun h => ⟨h, hno _⟩⟩⟩
      clear hno hR
      gi_wp2
      go_end0
      exact ⟨⟨_, rfl⟩, .inl ⟨pre, HF.out, hJp.out⟩⟩
    · obtain ⟨n, hca⟩ : ∃ n, cf a = some n := by
        cases h : cf a with
        | none => rw [h] at hfa; cases hfa
        | some n => exact ⟨n, rfl⟩
      rw [hca] at hfa
      cases hfa
      obtain rfl := HC.out.i a n hca
      have HCm := Lib.hid (hCm.out.more HC.out hla hca)
      have hfew : pre.length < 1000 := by have := hCm.out.few HC.out; omega
      have HJ5 := Lib.hid (HJ.out _ _ _ (some r) hJp.out hgr (fun r' e => by
        cases e
        obtain ⟨es, clock, since, seen, c0, _, _, hi, _⟩ := hR.out
        exact ⟨hn1, _, hi, rfl⟩))
      have BN : Below w5.heap.size w5 (w5.alloc (no n)) := (Below.refl _ _).alloc (Nat.le_refl _) _
      have HJ6 := Lib.hid (HJ.out _ _ _ none HJ5.out (grown_none BN) (fun r e => by cases e))
      have hKl : K < w5.heap.size := by
        obtain ⟨c, hc⟩ := hR1.mo
        exact mo_lt hc
      have hrl5 : r < w5.heap.size := by rw [hsz]; exact hrl
      have HR6 : Hid (Rg dI K (w5.alloc (no n)).heap[K]? (w5.alloc (no n)).heap[r]? (fun i => (cf i).map nv) (fun x => left x ∧ x ≠ n.i) cnt3) := by
        show Rg _ _ _ _ _ _ _
        rw [heap_alloc_old _ _ hKl, heap_alloc_old _ _ hrl5]; exact hR1
      have hrl6 : r < (w5.alloc (no n)).heap.size := by simp; omega
      clear hCm hJp hR HJ5 BN hR1 hgr
      obtain ⟨fn, tmps, assign, body, hy, hRd⟩ := HY.out pre n _ HJ6.out hfew
      have NB := nb_new w5 n
      obtain ⟨nb, ns, nq, d, h, c⟩ := n
      simp only [nv, no, No.i, dI, iv] at *
      have HSZ := Lib.hid hsz
      clear hsz
      gi_wp2
      refine hRd.mono ?_
      clear hy hRd hrun hen
      rintro e W3 (⟨rfl, hJ3, hk3⟩ | ⟨rfl, hJx3⟩)
      · have hR3 : Hid (Rg ⟨25, fun i => .agg #[.int .i64 i.1, .int .i64 i.2], fun p => fits p.1 ∧ fits p.2⟩ K W3.heap[K]? W3.heap[r]? (fun i => (cf i).map fun n => .agg #[.int .i64 n.b, .int .i64 n.s, .int .i64 n.q, .slice n.h n.d.length n.c]) (fun x => left x ∧ x ≠ (nb, ns)) cnt3) := by
          show Rg _ _ _ _ _ _ _
          have hR := HR6.out
          obtain ⟨es, clock, since, seen, c0, hb, _, hi, _⟩ := id hR
          rw [hk3.1.block K hK, hk3.2.same r _ hi rfl, ← hi]
          exact hR
        have hrl3 : r < W3.heap.size := Nat.lt_of_lt_of_le hrl6 hk3.2.size
        gi_wp2
        gi_roundg cnt3
        case measure => exact hcnt
        case rel => exact ⟨_, _, hR3.out, HCm.out, hJ3, hrl3⟩
      · gi_wp2
        refine bodyPost_ret (results_none rfl _ _ _) rfl ?_
        exact ⟨⟨_, rfl⟩, .inr ⟨_, trivial, hJx3⟩⟩

/-- The values of a map, told one by one: all, or some first ones where a round said 'no more'. -/
theorem va_stops (m : Nat) (hm : 1 ≤ m) (n₀ Bm K c : Nat) (cf : Is → Option No) (cl : List No) (hcf : Cf cf cl) (hK : K < n₀) (hBl : Bm < n₀) (w : World) (hn : n₀ ≤ w.heap.size) (hB : w.heap[Bm]? = some (.cells #[.map (some K)] 48 (0, 0))) (hMo : Mo dI w.heap[K]? (fun i => (cf i).map nv) c) :
    SeqStopsK Fence.wide m Tryz.prog 74 #[.pointer (some ⟨Bm, 0, none⟩)] (fun n : No => #[nv n]) (Kv n₀) (fun ys => Ds ys ∧ ∀ n, n ∈ ys ↔ n ∈ cl) (fun _ => True) 1000 w := fun l J Jx W hW hJ hJx hY h0 =>
  va_in m hm l n₀ Bm K c cf cl hcf hK J Jx W.heap.size hJ hY W (Nat.le_refl _) (Nat.le_trans hn hW.size) ((hW.block Bm (by omega)).trans hB) (by rw [hW.block K (by omega)]; exact hMo) h0
end Go.Proofs.YtgpciipemgljcaaGreat.Od

/-
  The walk of slices.SortFunc at a slice of none. No conditions.
-/
namespace Go.Proofs.YtgpciipemgljcaaGreat.Gp
open Go.RowKit Go.Shelf
set_option linter.unusedVariables false

theorem len64_zero (w : World) : Calls Tryz.prog 93 #[.int .u64 0] w (fun e w' => e = .returned (.int .i64 0) ∧ w' = w) := by
  go_enter Tryz.func93, Tryz.ntmps93
  go_wp2
  go_ret
  refine ⟨?_, rfl⟩
  have e : wrap64 (wrap64 (Lib.len8 0)) = 0 := by decide +kernel
  show Ending.returned (Value.int .i64 (wrap64 (wrap64 (Lib.len8 0)))) = _
  rw [e]

theorem len_zero (w : World) : Calls Tryz.prog 56 #[.int .u64 0] w (fun e w' => e = .returned (.int .i64 0) ∧ w' = w) := by
  have H := Lib.hid (len64_zero w)
  go_enter Tryz.func56, Tryz.ntmps56
  go_wp2_with fail
  refine H.out.mono ?_
  rintro e w' ⟨rfl, rfl⟩
  go_wp2
  go_ret
  exact ⟨rfl, rfl⟩

theorem ins_none (f : Value) (w : World) : Calls Tryz.prog 124 #[.slice none 0 0, .int .i64 0, .int .i64 0, f] w (fun e w' => e = .returned (.tuple #[]) ∧ w' = w) := by
  go_enter Tryz.func124, Tryz.ntmps124
  go_wp2
  go_loopg [8] 0 (fun g t W => t = .int .i64 1 ∧ W = w)
  case atStart => exact ⟨rfl, rfl⟩
  case round =>
    obtain ⟨rfl, rfl⟩ := hrel
    go_wp2
    go_end0
    exact ⟨rfl, rfl⟩

set_option maxRecDepth 100000 in
set_option maxHeartbeats 1000000 in
theorem pdq_none (f : Value) (w : World) : Calls Tryz.prog 101 #[.slice none 0 0, .int .i64 0, .int .i64 0, .int .i64 0, f] w (fun e w' => e = .returned (.tuple #[]) ∧ w' = w) := by
  have H := Lib.hid (ins_none f w)
  go_enter Tryz.func101, Tryz.ntmps101
  go_wp2
  go_loopg [1, 2] 0 (fun g a b W => a = .int .i64 0 ∧ b = .int .i64 0 ∧ W = w)
  case atStart => exact ⟨rfl, rfl, rfl⟩
  case round =>
    obtain ⟨rfl, rfl, rfl⟩ := hrel
    go_wp2_with fail
    refine H.out.mono ?_
    rintro e w' ⟨rfl, rfl⟩
    go_wp2
    refine bodyPost_ret (results_none rfl _ _ _) rfl ?_
    exact ⟨rfl, rfl⟩

theorem sortnone_any (f : Value) (w : World) : Calls Tryz.prog 82 #[.slice none 0 0, f] w (fun e w' => e = .returned (.tuple #[]) ∧ w' = w) := by
  have H1 := Lib.hid (len_zero w)
  have H2 := Lib.hid (pdq_none f w)
  go_enter Tryz.func82, Tryz.ntmps82
  go_wp2_with fail
  refine H1.out.mono ?_
  rintro e w' ⟨rfl, rfl⟩
  go_wp2_with fail
  refine H2.out.mono ?_
  rintro e w' ⟨rfl, rfl⟩
  go_wp2
  go_end0
  exact ⟨rfl, rfl⟩

end Go.Proofs.YtgpciipemgljcaaGreat.Gp

/-
  The walks of maps.Values, slices.Collect and slices.SortedFunc over the nodes that count: they come in the order of their instances. Conditions: at most 100 nodes count.
-/
namespace Go.Proofs.YtgpciipemgljcaaGreat.Od
open Go.RowKit Go.Shelf Go.Sort
open Go.Proofs.YtgpciipemgljcaaGreat.Gp (Off)
set_option linter.unusedVariables false
attribute [local go_sem] Oper.semAt_some

instance : Inhabited No := ⟨⟨0, 0, 0, [], none, 0⟩⟩
def e4 (n : No) : List Value := [.int .i64 n.b, .int .i64 n.s, .int .i64 n.q, .slice n.h n.d.length n.c]
theorem flat_ncs (l : List No) : flatK e4 4 l.toArray = (ncs l).toArray := by
  apply ext_get!
  · simp [ncs_len]
  · intro t ht
    have ht' : t < l.length * 4 := by simpa using ht
    have hq : t / 4 < l.length := by omega
    rw [get_flatK _ _ _ _ (by simpa using ht')]
    have hx : l[t / 4]? = some l[t / 4] := List.getElem?_eq_getElem hq
    obtain ⟨h0, h1, h2, h3⟩ := ncs_at l (t / 4) l[t / 4] hx
    have hlt : t < (ncs l).length := by rw [ncs_len]; exact ht'
    have e : (l.toArray)[t / 4]! = l[t / 4] := by simp [hq]
    rw [e]
    have e2 : ((ncs l).toArray)[t]! = (ncs l)[t] := by simp [hlt]
    rw [e2]
    have h4 : t % 4 = 0 ∨ t % 4 = 1 ∨ t % 4 = 2 ∨ t % 4 = 3 := by omega
    have key : ∀ u, (ncs l)[t]? = some u → (ncs l)[t] = u := fun u hu => by rw [List.getElem?_eq_getElem hlt] at hu; exact Option.some.inj hu
    have e0 : t / 4 * 4 + t % 4 = t := by omega
    clear e hx
    generalize l[t / 4] = x at *
    rcases h4 with h | h | h | h
    · rw [h] at e0 ⊢
      rw [Nat.add_zero] at e0
      rw [e0] at h0
      exact (key _ h0).symm
    · rw [h] at e0 ⊢
      rw [e0] at h1
      exact (key _ h1).symm
    · rw [h] at e0 ⊢
      rw [e0] at h2
      exact (key _ h2).symm
    · rw [h] at e0 ⊢
      rw [e0] at h3
      exact (key _ h3).symm

theorem holds_own4 {w : World} {base : Nat} {e : TypeId} {size g c n : Nat} {xs : List Value} (h : w.ownsRow base e size (.slice (some ⟨g, 0, none⟩) n c) n xs) : Holds id w g 0 xs.toArray := by
  intro j hj
  have hj' : j < xs.length := by simpa using hj
  refine ⟨?_, ?_⟩
  · have := h.cells (g := g) rfl j xs[j] (List.getElem?_eq_getElem hj')
    rw [Addr.add_lit] at this
    rw [this]
    simp [hj']
  · rcases h.2 with ⟨h0, _⟩ | ⟨g', cap, cur, hv, _, hh, _⟩
    · cases h0
    · simp only [Value.slice.injEq, Option.some.injEq, Addr.mk.injEq] at hv
      obtain ⟨⟨rfl, _⟩, _⟩ := hv
      exact Lib.frozen_of_heap hh _
theorem put_own4 {w : World} {base : Nat} {e : TypeId} {size g c n k : Nat} {os : Array Obj} {l : List Value} (h : w.ownsRow base e size (.slice (some ⟨g, 0, none⟩) n c) n l) (d : Array Value) (hd : d.size = n * size) :
    (grow (putRow id (Sort.ahead w k) g 0 d) os).ownsRow base e size (.slice (some ⟨g, 0, none⟩) n c) n d.toList := by
  rcases h.2 with ⟨h0, _⟩ | ⟨g', cap, cur, hv, hb, hh, h1, h2, h3, h4⟩
  · cases h0
  · simp only [Value.slice.injEq, Option.some.injEq, Addr.mk.injEq] at hv
    obtain ⟨⟨rfl, _⟩, _, rfl⟩ := hv
    have hcap : n * size ≤ c * size := Nat.mul_le_mul_right size h1
    refine ⟨by simp [hd], .inr ⟨g, c, _, rfl, hb, Gp.put_heap d hh, h1, h2, by simp [putCells, h3], ?_⟩⟩
    apply List.ext_getElem?
    intro j
    by_cases hj : j < n * size
    · rw [List.getElem?_take_of_lt (by omega), Array.getElem?_toList]
      simp [putCells, hd, hj, show j < cur.size by omega]
    · rw [List.getElem?_take_eq_none (by omega), List.getElem?_eq_none (by simp; omega)]

theorem ltOf_ci (x y : No) : ltOf (fun x y : No => ci x.i y.i) x y = true ↔ il x.i y.i := by
  unfold ltOf
  rw [decide_eq_true_iff, ci_neg]
theorem il_trans {a b c : Is} (h : il a b) (k : il b c) : il a c := by unfold il at *; omega
theorem il_not_trans {a b c : Is} (h : ¬ il a b) (k : ¬ il b c) : ¬ il a c := by unfold il at *; omega
theorem swo_ci : SWO (ltOf fun x y : No => ci x.i y.i) := by
  refine ⟨fun x => ?_, fun x y z h1 h2 => ?_, fun x y z h1 h2 => ?_⟩
  · rw [Bool.eq_false_iff]; intro h; rw [ltOf_ci] at h; exact il_asym h h
  · rw [ltOf_ci] at *; exact il_trans h1 h2
  · rw [Bool.eq_false_iff] at *
    intro h
    rw [ne_eq, ltOf_ci] at h1 h2
    rw [ltOf_ci] at h
    exact il_not_trans h1 h2 h

/-- Nodes of different instances, sorted by them. -/
theorem sortN_any (base g c : Nat) (l cl : List No) (hne : l ≠ []) (hd : Ds l) (hm : ∀ n, n ∈ l ↔ n ∈ cl) (hc : Ri cl) (hl : cl.length ≤ 100) (w : World) (h : w.ownsRow base 30 4 (.slice (some ⟨g, 0, none⟩) l.length c) l.length (ncs l)) :
    Calls Tryz.prog 73 #[.slice (some ⟨g, 0, none⟩) l.length c, .func (.func 47) #[] #[]] w (fun e w' => e = .returned (.tuple #[]) ∧ w'.ownsRow base 30 4 (.slice (some ⟨g, 0, none⟩) cl.length c) cl.length (ncs cl) ∧ Off (· = g) w w') := by
  have hlt := (h.lt g rfl).2
  have hlen : l.length ≤ 100 := by
    have hn : l.Nodup := hd.imp fun k e => k (by rw [e])
    exact Nat.le_trans (hn.length_le_of_subset fun x hx => (hm x).1 hx) hl
  have hH : HoldsK e4 4 w g 0 l.toArray := by
    unfold HoldsK
    rw [flat_ncs]
    exact holds_own4 h
  have hcmp : CmpLays Tryz.prog 47 #[] e4 4 (fun x y : No => ci x.i y.i) g 0 l.toArray.size w := fun m os dk hs x y => by
    refine (by_inst x y _).mono ?_
    rintro e w' ⟨he, q, os', hw⟩
    exact ⟨he, q, os', hw⟩
  have hcon := Gp.slices_SortFunc_f73 4 (fun w => Tryz.isAgg30 w) (fun w => Tryz.sizeOf30 w) e4 (fun x => rfl) (fun x v hv => by
    simp [e4] at hv
    rcases hv with rfl | rfl | rfl | rfl <;> rfl) (fun x y : No => ci x.i y.i) swo_ci 47 #[] g 0 c l.toArray w (enters_of Tryz.func47 (by kernel_rfl) rfl) hcmp hH hlt (by simp; omega)
  rw [show l.toArray.size = l.length by simp] at hcon
  refine hcon.mono ?_
  rintro e w' ⟨rfl, d', n, os, hp, hso, rfl⟩
  have hds : d'.size = l.length := by simpa using hp.1
  have hperm : d'.toList.Perm l := by
    have := hp.2.2
    rw [show (d'.extract 0 l.length) = d' by rw [← hds]; simp, show (l.toArray.extract 0 l.length) = l.toArray by simp] at this
    simpa using this
  have hri : d'.toList.Pairwise fun x y => il x.i y.i := by
    have hd' := hd.perm hperm
    refine List.pairwise_iff_getElem.2 fun i j hi' hj' hij => ?_
    simp only [Array.length_toList] at hi' hj'
    have h1 := hso i j (Nat.zero_le _) hij (by omega)
    rw [getElem!_pos d' j hj', getElem!_pos d' i hi'] at h1
    have hne2 := List.pairwise_iff_getElem.1 hd' i j (by simpa using hi') (by simpa using hj') hij
    simp only [Array.getElem_toList] at hne2 ⊢
    rcases il_tri hne2 with k | k
    · exact k
    · rw [← ltOf_ci, h1] at k; cases k
  have he : d'.toList = cl := same_of_rises (R := fun x y : No => il x.i y.i) (fun x y h k => il_asym h k) hri hc fun x => by rw [hperm.mem_iff, hm]
  have hll : l.length = cl.length := by rw [← he]; simp [hds]
  refine ⟨rfl, ?_, ?_⟩
  · have hfl : flatK e4 4 d' = (ncs cl).toArray := by
      rw [← he, ← flat_ncs]
    have := put_own4 (k := n) (os := os) h (flatK e4 4 d') (by simp [hds])
    rw [hfl] at this
    rw [← hll]
    unfold sortWorldK putRowK
    rw [hfl]
    simpa using this
  · exact Gp.put_off _
end Go.Proofs.YtgpciipemgljcaaGreat.Od

/-
  The walk of Ready's comparison of two places, and what slices.SortFunc makes of a part with it: the nodes there as Less has them. Conditions: the places are of nodes.
-/
namespace Go.Proofs.YtgpciipemgljcaaGreat.Od
open Go.RowKit Go.Shelf Go.Sort
open Go.Proofs.YtgpciipemgljcaaGreat.Gp (Off Ir)
set_option linter.unusedVariables false

/-- A slice of nodes in a box. -/
def Lx (w : World) (B : Nat) (A : Option Addr) (n c : Nat) : Prop := w.heap[B]? = some (.cells #[.slice A n c] 22 (0, 0))
theorem Lx.cell {w : World} {B : Nat} {A : Option Addr} {n c : Nat} (h : Lx w B A n c) : w.cell? ⟨B, 0, none⟩ = some (.slice A n c) := by rw [cell_of_row w B 0 _ 22 _ h]; rfl
theorem Lx.lt {w : World} {B : Nat} {A : Option Addr} {n c : Nat} (h : Lx w B A n c) : B < w.heap.size := lt_of_block h

set_option maxHeartbeats 1000000 in
theorem cmpk_any (r : List No) (B : Nat) (A : Option Addr) (c a b : Nat) (x y : No) (ha : r[a]? = some x) (hb : r[b]? = some y) (w : World) (hB : Lx w B A r.length c) (hs : Nl w w.heap.size A r) :
    Calls Tryz.prog 28 #[.int .i64 (a : Int), .int .i64 (b : Int), .pointer (some ⟨B, 0, none⟩)] w (CmpPost w (cn x y)) := by
  have hal := (List.getElem?_eq_some_iff.1 ha).1
  have hbl := (List.getElem?_eq_some_iff.1 hb).1
  obtain ⟨g, off, rfl, hg, p0, p1, p2, p3⟩ := hs.at_ ha
  obtain ⟨g2, off2, e2, hg2, q0, q1, q2, q3⟩ := hs.at_ hb
  cases e2
  have hai : (a : Int) < (r.length : Int) := by omega
  have hbi : (b : Int) < (r.length : Int) := by omega
  have ha0 : (0 : Int) ≤ (a : Int) := by omega
  have hb0 : (0 : Int) ≤ (b : Int) := by omega
  have hBl := hB.lt
  have HC : ∀ W, Hid (Calls Tryz.prog 29 #[nv x, nv y] W (CmpPost W (cn x y))) := fun W => cn_any x y W
  generalize cn x y = z at *
  obtain ⟨xb, xs, xq, xd, xh, xc⟩ := x
  obtain ⟨yb, ys, yq, yd, yh, yc⟩ := y
  simp only [nv] at *
  have KS : Hid (∀ v v', Gw v v' → (v.cell? ⟨B, 0, none⟩ = some (.slice (some ⟨g, off, none⟩) r.length c) ∧ (v.cell? ⟨g, off + a * 4, none⟩ = some (.int .i64 xb) ∧ v.cell? ⟨g, off + a * 4 + 1, none⟩ = some (.int .i64 xs) ∧ v.cell? ⟨g, off + a * 4 + 2, none⟩ = some (.int .i64 xq) ∧ v.cell? ⟨g, off + a * 4 + 3, none⟩ = some (.slice xh xd.length xc)) ∧ (v.cell? ⟨g, off + b * 4, none⟩ = some (.int .i64 yb) ∧ v.cell? ⟨g, off + b * 4 + 1, none⟩ = some (.int .i64 ys) ∧ v.cell? ⟨g, off + b * 4 + 2, none⟩ = some (.int .i64 yq) ∧ v.cell? ⟨g, off + b * 4 + 3, none⟩ = some (.slice yh yd.length yc)) ∧ Gw w v) →
      (v'.cell? ⟨B, 0, none⟩ = some (.slice (some ⟨g, off, none⟩) r.length c) ∧ (v'.cell? ⟨g, off + a * 4, none⟩ = some (.int .i64 xb) ∧ v'.cell? ⟨g, off + a * 4 + 1, none⟩ = some (.int .i64 xs) ∧ v'.cell? ⟨g, off + a * 4 + 2, none⟩ = some (.int .i64 xq) ∧ v'.cell? ⟨g, off + a * 4 + 3, none⟩ = some (.slice xh xd.length xc)) ∧ (v'.cell? ⟨g, off + b * 4, none⟩ = some (.int .i64 yb) ∧ v'.cell? ⟨g, off + b * 4 + 1, none⟩ = some (.int .i64 ys) ∧ v'.cell? ⟨g, off + b * 4 + 2, none⟩ = some (.int .i64 yq) ∧ v'.cell? ⟨g, off + b * 4 + 3, none⟩ = some (.slice yh yd.length yc)) ∧ Gw w v')) := fun v v' hb' hS => by
    have hsz : w.heap.size ≤ v.heap.size := hS.2.2.2.below.size
    have hc : ∀ j, v'.cell? ⟨g, j, none⟩ = v.cell? ⟨g, j, none⟩ := fun j => World.cell?_of_block (hb'.below.block g (by omega))
    have hc2 : ∀ j, v'.cell? ⟨B, j, none⟩ = v.cell? ⟨B, j, none⟩ := fun j => World.cell?_of_block (hb'.below.block B (by omega))
    obtain ⟨h1, ⟨h2, h3, h4, h5⟩, ⟨h6, h7, h8, h9⟩, h10⟩ := hS
    exact ⟨(hc2 _).trans h1, ⟨(hc _).trans h2, (hc _).trans h3, (hc _).trans h4, (hc _).trans h5⟩, ⟨(hc _).trans h6, (hc _).trans h7, (hc _).trans h8, (hc _).trans h9⟩, h10.trans hb'⟩
  have S0 : w.cell? ⟨B, 0, none⟩ = some (.slice (some ⟨g, off, none⟩) r.length c) ∧ (w.cell? ⟨g, off + a * 4, none⟩ = some (.int .i64 xb) ∧ w.cell? ⟨g, off + a * 4 + 1, none⟩ = some (.int .i64 xs) ∧ w.cell? ⟨g, off + a * 4 + 2, none⟩ = some (.int .i64 xq) ∧ w.cell? ⟨g, off + a * 4 + 3, none⟩ = some (.slice xh xd.length xc)) ∧ (w.cell? ⟨g, off + b * 4, none⟩ = some (.int .i64 yb) ∧ w.cell? ⟨g, off + b * 4 + 1, none⟩ = some (.int .i64 ys) ∧ w.cell? ⟨g, off + b * 4 + 2, none⟩ = some (.int .i64 yq) ∧ w.cell? ⟨g, off + b * 4 + 3, none⟩ = some (.slice yh yd.length yc)) ∧ Gw w w := ⟨hB.cell, ⟨p0, p1, p2, p3⟩, ⟨q0, q1, q2, q3⟩, Gw.refl _⟩
  have KD := Lib.hid (fun v hS => KS.out v v.drew (Gw.refl _).drew hS)
  clear hs hB
  obtain ⟨hB0, _⟩ := id S0
  go_enter Tryz.func28, Tryz.ntmps28
  go_wp2_with fail
  go_region_held3 (fun v => v.cell? ⟨B, 0, none⟩ = some (.slice (some ⟨g, off, none⟩) r.length c) ∧ (v.cell? ⟨g, off + a * 4, none⟩ = some (.int .i64 xb) ∧ v.cell? ⟨g, off + a * 4 + 1, none⟩ = some (.int .i64 xs) ∧ v.cell? ⟨g, off + a * 4 + 2, none⟩ = some (.int .i64 xq) ∧ v.cell? ⟨g, off + a * 4 + 3, none⟩ = some (.slice xh xd.length xc)) ∧ (v.cell? ⟨g, off + b * 4, none⟩ = some (.int .i64 yb) ∧ v.cell? ⟨g, off + b * 4 + 1, none⟩ = some (.int .i64 ys) ∧ v.cell? ⟨g, off + b * 4 + 2, none⟩ = some (.int .i64 yq) ∧ v.cell? ⟨g, off + b * 4 + 3, none⟩ = some (.slice yh yd.length yc)) ∧ Gw w v)
    (first | (exact S0) | assumption | (exact KD.out _ S0) | (refine KS.out _ _ hb1 ?_; first | assumption | exact KD.out _ S0) | (refine KD.out _ ?_; assumption))
    (first | (go_at_call 29; (with_reducible refine (HC _).out.mono ?_); rintro e wa ⟨rfl, hb1⟩))
  rename_i hS
  have HG := hS.2.2.2
  clear KS KD S0 hS HC
  go_wp2
  go_ret
  exact ⟨rfl, HG⟩

/-- A node's place. -/
abbrev Kp (r : List No) := { k : Nat // k < r.length }
theorem ltOf_cn {r : List No} (x y : Kp r) : ltOf (fun x y : Kp r => cn r[x.1] r[y.1]) x y = true ↔ ls r[x.1] r[y.1] = true := by
  unfold ltOf
  rw [decide_eq_true_iff, cn_neg]
theorem swo_cn (r : List No) : SWO (ltOf fun x y : Kp r => cn r[x.1] r[y.1]) := by
  refine ⟨fun x => ?_, fun x y z h1 h2 => ?_, fun x y z h1 h2 => ?_⟩
  · rw [Bool.eq_false_iff]; intro h; rw [ltOf_cn] at h; have := ls_asym h; rw [h] at this; cases this
  · rw [ltOf_cn, ls_iff] at *
    unfold il at *
    omega
  · rw [Bool.eq_false_iff] at *
    intro h
    rw [ne_eq, ltOf_cn, ls_iff] at h1 h2
    rw [ltOf_cn, ls_iff] at h
    unfold il at *
    omega
theorem kps {r : List No} {p : List Nat} (h : ∀ k ∈ p, k < r.length) : ∃ l : List (Kp r), l.map (·.1) = p := ⟨p.attachWith _ h, by simp⟩
theorem pn_map {r : List No} (l : List (Kp r)) : pn r (l.map (·.1)) = l.map fun x => r[x.1] := by
  induction l with
  | nil => rfl
  | cons x l ih =>
    simp only [pn, List.map_cons, List.filterMap_cons, List.getElem?_eq_getElem x.2] at *
    rw [ih]

/-- A part, sorted. -/
theorem sortp_any (r : List No) (hri : Ri r) (D B : Nat) (A : Option Addr) (c g cp : Nat) (p : List Nat) (hp : p ≠ []) (hin : ∀ k ∈ p, k < r.length) (hnd : p.Nodup) (hl : p.length ≤ 1000) (hDg : D ≤ g) (hBD : B < D) (w : World) (hDw : D ≤ w.heap.size) (hI : Ir w (.slice (some ⟨g, 0, none⟩) p.length cp) p) (hB : Lx w B A r.length c) (hs : Nl w D A r) :
    Calls Tryz.prog 27 #[.slice (some ⟨g, 0, none⟩) p.length cp, .func (.func 28) #[] #[.pointer (some ⟨B, 0, none⟩)]] w (fun e w' => e = .returned (.tuple #[]) ∧ ∃ p', p'.Perm p ∧ pn r p' = so (pn r p) ∧ Ir w' (.slice (some ⟨g, 0, none⟩) p.length cp) p' ∧ Off (· = g) w w') := by
  obtain ⟨l, h1⟩ := kps hin
  have hll : l.length = p.length := by rw [← h1]; simp
  obtain ⟨x0, l', e0⟩ : ∃ x l', l = x :: l' := by
    cases l with
    | nil => simp at hll; exact absurd (List.length_eq_zero_iff.1 hll.symm) hp
    | cons x l' => exact ⟨x, l', rfl⟩
  haveI : Inhabited (Kp r) := ⟨x0⟩
  clear e0
  obtain ⟨g0, c0, cur, hv, hh, hcur⟩ := hI
  simp only [Value.slice.injEq, Option.some.injEq, Addr.mk.injEq, true_and] at hv
  obtain ⟨⟨rfl, _⟩, rfl⟩ := hv
  have hlt : g < w.heap.size := lt_of_block hh
  have hcs : p.length ≤ cur.size := by
    rcases Nat.lt_or_ge cur.size p.length with h | h
    · have := hcur cur.size _ (List.getElem?_eq_getElem h)
      simp at this
    · exact h
  have hH : Holds (fun x : Kp r => Value.int .i64 (x.1 : Int)) w g 0 l.toArray := by
    intro j hj
    have hj' : j < l.length := by simpa using hj
    refine ⟨?_, Lib.frozen_of_heap hh _⟩
    rw [Nat.zero_add, cell_of_row w g j cur 3 _ hh, hcur j (l[j]).1 (by rw [← h1]; simp [hj'])]
    simp [hj']
  have hlay : CmpLays1 Tryz.prog 28 #[.pointer (some ⟨B, 0, none⟩)] (fun x : Kp r => Value.int .i64 (x.1 : Int)) (fun x y => cn r[x.1] r[y.1]) g 0 l.toArray.size w := fun m os dk hs' x y => by
    have hO : Off (· = g) w (sortWorld (fun x : Kp r => Value.int .i64 (x.1 : Int)) w g 0 m dk os) := Gp.put_off dk
    have hBe : Below D w (sortWorld (fun x : Kp r => Value.int .i64 (x.1 : Int)) w g 0 m dk os) := hO.below (by rintro r rfl; exact hDg) hDw
    refine (cmpk_any r B A c x.1 y.1 r[x.1] r[y.1] (List.getElem?_eq_getElem x.2) (List.getElem?_eq_getElem y.2) _ ((hBe.block B hBD).trans hB) (hs.to hBe (Nat.le_trans hDw hO.size))).mono ?_
    rintro e w' ⟨he, q, os', hw⟩
    exact ⟨he, q, os', hw⟩
  have hcon := Gp.slices_SortFunc_f27 (fun x : Kp r => Value.int .i64 (x.1 : Int)) (fun x => rfl) (fun x y => cn r[x.1] r[y.1]) (swo_cn r) 28 #[.pointer (some ⟨B, 0, none⟩)] g 0 cp l.toArray w (enters_of Tryz.func28 (by kernel_rfl) rfl) hlay hH hlt (by simp; omega)
  rw [show l.toArray.size = p.length by simpa using hll] at hcon
  refine hcon.mono ?_
  rintro e w' ⟨rfl, d', n, os, hpm, hso, rfl⟩
  have hds : d'.size = p.length := hpm.1.trans (by simpa using hll)
  have hperm : d'.toList.Perm l := by
    have := hpm.2.2
    rw [show (d'.extract 0 p.length) = d' by rw [← hds]; simp, show (l.toArray.extract 0 p.length) = l.toArray by rw [← hll]; simp] at this
    simpa using this
  have hpp : (d'.toList.map (·.1)).Perm p := by rw [← h1]; exact hperm.map _
  have hsz' : (d'.toList.map (·.1)).length = p.length := hpp.length_eq
  refine ⟨rfl, d'.toList.map (·.1), hpp, ?_, ⟨g, cp, _, by rw [hsz'], Gp.put_heap d' hh, fun j x hx => ?_⟩, Gp.put_off d'⟩
  · refine so_one (hri.ds hnd) (List.Perm.filterMap _ hpp) ?_
    rw [pn_map, List.pairwise_map, List.pairwise_iff_getElem]
    intro i j hi' hj' hij
    simp only [Array.length_toList] at hi' hj'
    have := hso i j (Nat.zero_le _) hij (by omega)
    rw [getElem!_pos d' j hj', getElem!_pos d' i hi'] at this
    simp only [Array.getElem_toList]
    rw [Bool.eq_false_iff] at this ⊢
    intro k
    exact this ((ltOf_cn _ _).2 k)
  · rw [List.getElem?_map] at hx
    rcases hy : d'.toList[j]? with _ | y
    · rw [hy] at hx; cases hx
    · rw [hy] at hx
      simp only [Option.map_some, Option.some.injEq] at hx
      subst hx
      have hj : j < p.length := by rw [← hds]; simpa using (List.getElem?_eq_some_iff.1 hy).1
      have hy2 : d'[j]? = some y := by simpa using hy
      have hy3 : d'[j]'(by omega) = y := by
        rw [Array.getElem?_eq_getElem (by omega)] at hy2
        exact Option.some.inj hy2
      simp [putCells, hds, hj, show j < cur.size by omega, hy3]
end Go.Proofs.YtgpciipemgljcaaGreat.Od

/-
  The walks of maps.Values, slices.Collect and slices.SortedFunc over the nodes that count: they come in the order of their instances. Conditions: at most 100 nodes count.
-/
namespace Go.Proofs.YtgpciipemgljcaaGreat.Od
open Go.RowKit Go.Shelf
open Go.Proofs.YtgpciipemgljcaaGreat.Gp (Off)
set_option linter.unusedVariables false
attribute [local go_sem] Oper.semAt_some

theorem insN_none (f : Value) (w : World) : Calls Tryz.prog 116 #[.slice none 0 0, .int .i64 0, .int .i64 0, f] w (fun e w' => e = .returned (.tuple #[]) ∧ w' = w) := by
  go_enter Tryz.func116, Tryz.ntmps116
  go_wp2
  go_loopg [8] 0 (fun g t W => t = .int .i64 1 ∧ W = w)
  case atStart => exact ⟨rfl, rfl⟩
  case round =>
    obtain ⟨rfl, rfl⟩ := hrel
    go_wp2
    go_end0
    exact ⟨rfl, rfl⟩

set_option maxRecDepth 100000 in
set_option maxHeartbeats 1000000 in
theorem pdqN_none (f : Value) (w : World) : Calls Tryz.prog 99 #[.slice none 0 0, .int .i64 0, .int .i64 0, .int .i64 0, f] w (fun e w' => e = .returned (.tuple #[]) ∧ w' = w) := by
  have H := Lib.hid (insN_none f w)
  go_enter Tryz.func99, Tryz.ntmps99
  go_wp2
  go_loopg [1, 2] 0 (fun g a b W => a = .int .i64 0 ∧ b = .int .i64 0 ∧ W = w)
  case atStart => exact ⟨rfl, rfl, rfl⟩
  case round =>
    obtain ⟨rfl, rfl, rfl⟩ := hrel
    go_wp2_with fail
    refine H.out.mono ?_
    rintro e w' ⟨rfl, rfl⟩
    go_wp2
    refine bodyPost_ret (results_none rfl _ _ _) rfl ?_
    exact ⟨rfl, rfl⟩

theorem sortNnone_any (f : Value) (w : World) : Calls Tryz.prog 73 #[.slice none 0 0, f] w (fun e w' => e = .returned (.tuple #[]) ∧ w' = w) := by
  have H1 := Lib.hid (Gp.len_zero w)
  have H2 := Lib.hid (pdqN_none f w)
  go_enter Tryz.func73, Tryz.ntmps73
  go_wp2_with fail
  refine H1.out.mono ?_
  rintro e w' ⟨rfl, rfl⟩
  go_wp2_with fail
  refine H2.out.mono ?_
  rintro e w' ⟨rfl, rfl⟩
  go_wp2
  go_end0
  exact ⟨rfl, rfl⟩


/-- The call gave a row of its own of just these nodes, in whatever order. -/
def NsPost (w : World) (cl : List No) (e : Ending) (w' : World) : Prop := ∃ v ys, e = .returned v ∧ Ds ys ∧ (∀ n, n ∈ ys ↔ n ∈ cl) ∧ (ys = [] → v = .slice none 0 0) ∧ w'.ownsRow w.heap.size 30 4 v ys.length (ncs ys) ∧ Below w.heap.size w w'
/-- .. in their order. -/
def NlPost (w : World) (l : List No) (e : Ending) (w' : World) : Prop := ∃ v, e = .returned v ∧ w'.ownsRow w.heap.size 30 4 v l.length (ncs l) ∧ Below w.heap.size w w'

set_option maxRecDepth 100000 in
set_option maxHeartbeats 4000000 in
theorem seqN_any (Bm K c : Nat) (cf : Is → Option No) (cl : List No) (hcf : Cf cf cl) (w : World) (hB : w.heap[Bm]? = some (.cells #[.map (some K)] 48 (0, 0))) (hMo : Mo dI w.heap[K]? (fun i => (cf i).map nv) c) :
    Calls Tryz.prog 98 #[.slice none 0 0, .func (.func 74) #[] #[.pointer (some ⟨Bm, 0, none⟩)]] w (NsPost w cl) := by
  obtain ⟨i0, hi, hz0, hz1, hz2⟩ := info_parts info30
  refine (callsIn_wide (n := 6)).1 ?_
  refine callsIn_of_wp_marks Tryz.func98 rfl trivial ?_ rfl
  simp only [Tryz.ntmps98, List.size_toArray, List.length_cons, List.length_nil, Nat.reduceAdd, Nat.reduceSub, Array.replicate_succ, Array.replicate_zero, List.push_toArray, List.append_toArray, List.nil_append, List.cons_append]
  gi_wp2
  have B0 : Below w.heap.size w (w.alloc (.cells #[.slice none 0 0] 22)) := (Below.refl _ w).alloc (Nat.le_refl _) _
  have bv := Boxed.new w 22 (.slice none 0 0)
  have sz : (w.alloc (.cells #[.slice none 0 0] 22)).heap.size = w.heap.size + 1 := by simp
  obtain ⟨W0, hW0⟩ : ∃ W0, w.alloc (.cells #[.slice none 0 0] 22) = W0 := ⟨_, rfl⟩
  rw [hW0] at B0 bv sz ⊢
  clear hW0
  have hBl : Bm < w.heap.size := (Array.getElem?_eq_some_iff.1 hB).1
  have hKl := mo_lt hMo
  refine wpIn_rangeFunc_ownH rfl (by omega) (gf := 74) (lb := #[.pointer (some ⟨Bm, 0, none⟩)]) rfl trivial (enters_of Tryz.func74 (by kernel_rfl) rfl)
    (va_stops (6 - 1) (by omega) w.heap.size Bm K c cf cl hcf hKl hBl W0 (by omega) ((B0.block Bm hBl).trans hB) (by rw [B0.block K hKl]; exact hMo)) kv_t (kv_b (by omega)) (Below.refl _ _) (fun _ => rfl)
    (fun pre W => (∃ v, Boxed W w.heap.size 22 v ∧ W.ownsRow w.heap.size 30 4 v pre.length (ncs pre) ∧ (pre = [] → v = .slice none 0 0)) ∧ (Below w.heap.size w W ∧ w.heap.size + 1 ≤ W.heap.size))
    (fun _ _ _ => False)
    (OwnFrom.and (Own.from (holdsRow_own w.heap.size w.heap.size 22 30 4 (fun pre : List No => pre.length) (fun pre => ncs pre) (fun (pre : List No) (v : Value) => pre = [] → v = .slice none 0 0)) _) (OwnFrom.and (ownFrom_below (Nat.le_refl _) (by omega)) (size_own _ _)))
    (fun _ _ _ _ _ hs _ _ => hs)
    ⟨⟨_, bv, World.ownsRow_nil _ _ _ _, fun _ => rfl⟩, B0, by omega⟩
    (fun x a' W => ∃ Bx, w.heap.size < Bx ∧ Nb W Bx x ∧ a' = { tmps := #[.slice none 0 0, .func (.func 74) #[] #[.pointer (some ⟨Bm, 0, none⟩)], .pointer (some ⟨w.heap.size, 0, none⟩), undef, .slice none 0 0, .pointer (some ⟨Bx, 0, none⟩), .func (.func 74) #[] #[.pointer (some ⟨Bm, 0, none⟩)], nv x, undef, undef, undef, undef, undef], defers := [] })
    (fun x a' _ X Y row hs hg hr => by obtain ⟨Bx, h1, h2, h3⟩ := hs; exact ⟨Bx, h1, lay_own Bx 30 (fun (_ : Unit) => #[.int .i64 x.b, .int .i64 x.s, .int .i64 x.q, .slice x.h x.d.length x.c]) () X Y row h2 hg (fun r e => (hr r e).2), h3⟩)
    ?assign ?body ?done ?stop
  case assign =>
    rintro l pre x W K ⟨⟨v, b1, ho, hnil⟩, hB, hZ⟩ hK
    have hsW := hB.size
    gi_wp2
    exact hK _ _ ((KeepsOthers.alloc _ _).from _) ⟨(Below.refl _ W).alloc hsW _, KeepsWalks.alloc _ _⟩ ⟨⟨v, b1.alloc _, ho.alloc _, hnil⟩, hB.alloc hsW _, by simp; omega⟩ ⟨W.heap.size, by omega, nb_new W x, rfl⟩
  case body =>
    rintro l pre x a' W hlw ⟨r, hr⟩ ⟨⟨v, b1, ho, hnil⟩, hB, hZ⟩ ⟨Bx, hBx, jb, rfl⟩ hlt
    have cv := b1.cell
    have fv := b1.frozen
    obtain ⟨p0, p1, p2, p3⟩ := jb.nr
    have hjl := jb.lt
    have hsW := hB.size
    gi_wp2_with (gi_at_builtin; refine wpListIn_append_own_at _ rfl _ _ 22 rfl w.heap.size 30 i0 (.agg #[.int .i64 0, .int .i64 0, .int .i64 0, .slice none 0 0]) 4 48 Tryz.underlying22 hi hz0 hz1 hz2 rfl (by decide) v pre.length (ncs pre) rfl (ho.alloc _) ⟨W.heap.size, 0, none⟩ 1 1 [.int .i64 x.b, .int .i64 x.s, .int .i64 x.q, .slice x.h x.d.length x.c] rfl rfl (cell_four_new _ _ _ _ _ _) (by simp [Value.oneCell']) (by unfold maxLen; omega) (by omega) (by simp; omega) ?_; intro v' w1 hown' hgrow _ hat'; obtain ⟨g', cap', rfl⟩ := ownsRow_succ hown'; obtain ⟨hv1, hv2, hr2, hk2, hb2⟩ := b1.appended (by decide) ho hB.size (Nat.le_refl _) hown' hgrow; have hc1 := hv1.cell; have hf1 := hv1.frozen)
    have hr3 : (w1.setCell ⟨w.heap.size, 0, none⟩ (.slice (some ⟨g', 0, none⟩) (pre.length + 1) cap')).ownsRow w.heap.size 30 4 (.slice (some ⟨g', 0, none⟩) (pre.length + 1) cap') (pre ++ [x]).length (ncs (pre ++ [x])) := by
      rw [List.length_append, ncs_append]
      exact hr2
    gi_wp2
    exact ⟨hk2.from _, ⟨hb2, hk2.walks⟩, ⟨_, hv2, hr3, fun h => by simp at h⟩, hB.trans hb2, Nat.le_trans hZ (hb2.size)⟩
  case done =>
    rintro D' ys W hD ⟨hds, hmm⟩ ⟨⟨v, b1, ho, hnil⟩, hB, hZ⟩ hK
    have HD := Lib.hid hds
    have HM := Lib.hid hmm
    clear hds hmm
    have c1 := b1.cell
    gi_wp2
    refine ⟨by simp, .inl ⟨_, _, rfl, run_takeDeferred hK, ?_⟩⟩
    exact ⟨_, results_tmp rfl _ _ _, v, ys, rfl, HD.out, HM.out, hnil, ownsRow_putObj ho _ hK rfl, hB.trans (belowK_b (w := w) (Nat.le_refl _) W D' _ _ (by omega) hK rfl rfl)⟩
  case stop =>
    rintro D c pre W _ _ h _
    exact h.elim


theorem values_any (K : Nat) (w : World) : Calls Tryz.prog 46 #[.map (some K)] w (fun e w' => e = .returned (.func (.func 74) #[] #[.pointer (some ⟨w.heap.size, 0, none⟩)]) ∧ w' = w.alloc (.cells #[.map (some K)] 48)) := by
  go_enter Tryz.func46, Tryz.ntmps46
  go_wp2
  go_ret
  exact ⟨rfl, rfl⟩
theorem collectN_any (Bm K c : Nat) (cf : Is → Option No) (cl : List No) (hcf : Cf cf cl) (w : World) (hB : w.heap[Bm]? = some (.cells #[.map (some K)] 48 (0, 0))) (hMo : Mo dI w.heap[K]? (fun i => (cf i).map nv) c) :
    Calls Tryz.prog 72 #[.func (.func 74) #[] #[.pointer (some ⟨Bm, 0, none⟩)]] w (NsPost w cl) := by
  have H := Lib.hid (seqN_any Bm K c cf cl hcf w hB hMo)
  clear hB hMo
  go_enter Tryz.func72, Tryz.ntmps72
  go_wp2_with fail
  refine H.out.mono ?_
  rintro e w1 ⟨v, ys, rfl, h1, h2, h0, h3, h4⟩
  have H1 := Lib.hid h1
  have H2 := Lib.hid h2
  have H0 := Lib.hid h0
  clear h1 h2 h0
  go_wp2
  go_ret
  exact ⟨v, ys, rfl, H1.out, H2.out, H0.out, h3, h4⟩
theorem sortedN_any (Bm K c : Nat) (cf : Is → Option No) (cl : List No) (hcf : Cf cf cl) (hri : Ri cl) (w : World) (hB : w.heap[Bm]? = some (.cells #[.map (some K)] 48 (0, 0))) (hMo : Mo dI w.heap[K]? (fun i => (cf i).map nv) c) :
    Calls Tryz.prog 45 #[.func (.func 74) #[] #[.pointer (some ⟨Bm, 0, none⟩)], .func (.func 47) #[] #[]] w (NlPost w cl) := by
  have H := Lib.hid (collectN_any Bm K c cf cl hcf w hB hMo)
  have HR := Lib.hid hri
  have HC := Lib.hid hcf
  clear hB hMo hri hcf
  go_enter Tryz.func45, Tryz.ntmps45
  go_wp2_with fail
  refine H.out.mono ?_
  rintro e w1 ⟨v, ys, rfl, h1, h2, h0, h3, h4⟩
  have H2 := Lib.hid h2
  by_cases hne : ys = []
  · have hc : Hid (cl = []) := by
      show cl = []
      rcases cl with _ | ⟨x, r⟩
      · rfl
      · have := (h2 x).2 (by simp)
        rw [hne] at this; cases this
    subst hne
    have hv : v = .slice none 0 0 := h0 rfl
    subst hv
    have H5 := Lib.hid (sortNnone_any (.func (.func 47) #[] #[]) w1)
    have HO := Lib.hid h3
    clear h1 h2 h3 h0
    go_wp2_with fail
    refine H5.out.mono ?_
    rintro e w2 ⟨rfl, rfl⟩
    go_wp2
    go_ret
    exact ⟨_, rfl, by rw [hc.out]; exact HO.out, h4⟩
  · obtain ⟨g, cap, rfl⟩ : ∃ g cap, v = .slice (some ⟨g, 0, none⟩) ys.length cap := by
      rcases h3.2 with ⟨_, h⟩ | ⟨g, cap, cur, h, _⟩
      · exact absurd (List.length_eq_zero_iff.1 h) hne
      · exact ⟨g, cap, h⟩
    have H5 := Lib.hid (sortN_any w.heap.size g cap ys cl hne h1 h2 HR.out HC.out.l w1 h3)
    have hll : Hid (ys.length = cl.length) := by
      have n1 : ys.Nodup := h1.imp fun k e => k (by rw [e])
      have n2 : cl.Nodup := List.Pairwise.imp (fun {a b : No} (k : il a.i b.i) (e : a = b) => il_ne k (by rw [e])) HR.out
      exact Nat.le_antisymm (n1.length_le_of_subset fun x hx => (h2 x).1 hx) (n2.length_le_of_subset fun x hx => (h2 x).2 hx)
    have hg := (h3.lt g rfl)
    clear h1 h2 h3 hne h0
    go_wp2_with fail
    refine H5.out.mono ?_
    rintro e w2 ⟨rfl, ho, hoff⟩
    have hb := h4.trans (hoff.below (D := w.heap.size) (fun r e => by rw [e]; exact hg.1) h4.size)
    go_wp2
    go_ret
    refine ⟨_, rfl, ?_, hb⟩
    rw [hll.out]
    exact ho
end Go.Proofs.YtgpciipemgljcaaGreat.Od

/-
  Rows of edges of the call's own, and what append makes of them. No program's function is walked here. No conditions.
-/
namespace Go.Proofs.YtgpciipemgljcaaGreat.Gp
open Go.RowKit
set_option linter.unusedVariables false

/-- The cells of edges, one behind the other. -/
def eg2 : List (Int × Int) → List Value
  | [] => []
  | x :: l => .int .i64 x.1 :: .int .i64 x.2 :: eg2 l
theorem eg2_len : ∀ l, (eg2 l).length = l.length * 2
  | [] => rfl
  | x :: l => by simp only [eg2, List.length_cons, eg2_len l]; omega
theorem eg2_append : ∀ l m, eg2 (l ++ m) = eg2 l ++ eg2 m
  | [], m => rfl
  | x :: l, m => by simp [eg2, eg2_append l m]
theorem eg2_one : ∀ l, ∀ u ∈ eg2 l, u.oneCell' = true
  | [], u, h => by cases h
  | x :: l, u, h => by
    simp only [eg2, List.mem_cons] at h
    rcases h with rfl | rfl | h
    · rfl
    · rfl
    · exact eg2_one l u h
theorem eg2_read {w : World} {b : Nat} : ∀ (l : List (Int × Int)) (off : Nat) (hc : ∀ j x, l[j]? = some x → w.cell? ⟨b, off + j * 2, none⟩ = some (.int .i64 x.1) ∧ w.cell? ⟨b, off + j * 2 + 1, none⟩ = some (.int .i64 x.2)) (j : Nat) (u : Value), (eg2 l)[j]? = some u → w.cell? ⟨b, off + j, none⟩ = some u
  | [], off, hc, j, u, h => by simp [eg2] at h
  | x :: l, off, hc, j, u, h => by
    obtain ⟨q0, q1⟩ := hc 0 x rfl
    simp only [Nat.zero_mul, Nat.add_zero] at q0 q1
    match j, h with
    | 0, h => simp [eg2] at h; subst h; exact q0
    | 1, h => simp [eg2] at h; subst h; exact q1
    | j + 2, h =>
      have h' : (eg2 l)[j]? = some u := by simpa [eg2] using h
      have := eg2_read l (off + 2) (fun i y hy => by
        have := hc (i + 1) y (by simpa using hy)
        rw [show off + (i + 1) * 2 = off + 2 + i * 2 by omega] at this
        exact this) j u h'
      rw [show off + (j + 2) = off + 2 + j by omega]
      exact this
theorem eg2_at : ∀ (l : List (Int × Int)) (i : Nat) (x : Int × Int), l[i]? = some x → (eg2 l)[i * 2]? = some (.int .i64 x.1) ∧ (eg2 l)[i * 2 + 1]? = some (.int .i64 x.2)
  | [], i, x, h => by simp at h
  | y :: l, 0, x, h => by simp at h; subst h; exact ⟨rfl, rfl⟩
  | y :: l, i + 1, x, h => by
    obtain ⟨q0, q1⟩ := eg2_at l i x (by simpa using h)
    rw [show (i + 1) * 2 = i * 2 + 2 by omega]
    exact ⟨q0, q1⟩
/-- A row of edges of the call's own is a slice that reads as them. -/
theorem own_es {w : World} {base : Nat} {v : Value} {n : Nat} {l : List (Int × Int)} (h : w.ownsRow base 46 2 v n (eg2 l)) (hn : n = l.length) : ∃ A c, v = .slice A l.length c ∧ Es w w.heap.size A l := by
  subst hn
  rcases h.2 with ⟨h1, h2⟩ | ⟨g, cap, cur, h1, _⟩
  · exact ⟨none, 0, by rw [h1, h2], .inl (List.length_eq_zero_iff.1 h2)⟩
  · subst h1
    refine ⟨_, cap, rfl, .inr ⟨g, 0, rfl, (h.lt g rfl).2, fun i x hx => ?_⟩⟩
    have hc : ∀ j u, (eg2 l)[j]? = some u → w.cell? ⟨g, 0 + j, none⟩ = some u := fun j u hu => by
      have := h.cells (g := g) rfl j u hu
      rwa [Addr.add_lit] at this
    obtain ⟨q0, q1⟩ := eg2_at l i x hx
    exact ⟨hc _ _ q0, hc _ _ q1⟩
theorem info46 : (Tryz.prog.info? 46).map (fun i => (i.zero, i.size, i.bytes)) = some (some (.agg #[.int .i64 0, .int .i64 0]), 2, 16) := by kernel_rfl
theorem run_app2 (w : World) (base : Nat) (ty : TypeId) (v : Value) (l : List (Int × Int)) (hown : w.ownsRow base 46 2 v l.length (eg2 l)) (B : Nat) (A : Option Addr) (c : Nat) (news : List (Int × Int)) (hs : Es w B A news) (hl : l.length + news.length ≤ 100000) (hbase : base ≤ w.heap.size) :
    ∃ v' w', (Builtin.append_ #[44, 44] ty #[v, .slice A news.length c]).run Tryz.prog w = .ok v' w' ∧ w'.ownsRow base 46 2 v' (l ++ news).length (eg2 (l ++ news)) ∧ w.grownBy w' v.ownBlock := by
  obtain ⟨i0, hi, hz0, hz1, hz2⟩ := info_parts info46
  rcases A with _ | ad
  · have hn : news = [] := by
      rcases hs with h | ⟨b, off, h, _⟩
      · exact h
      · cases h
    subst hn
    refine ⟨v, w, ?_, by simpa using hown, World.grownBy.refl w _⟩
    rcases hown.2 with ⟨rfl, h0⟩ | ⟨g, cap, cur, rfl, _, _, hnc, _⟩
    · rw [show Tryz.prog = Tryz.prog from rfl]
      simp [Builtin.append_, run_underlying Tryz.underlying44, sizeOf, typeInfo, hi, Builtin.lenOf, Builtin.firstCells]
    · simp [Builtin.append_, run_underlying Tryz.underlying44, sizeOf, typeInfo, hi, Builtin.lenOf, Builtin.firstCells, hnc, storeCells]
  · obtain ⟨v', w', h1, h2, h3, _⟩ := run_append_own (P := Tryz.prog) w base 44 ty 46 i0 _ 2 16 Tryz.underlying44 hi hz0 hz1 hz2 rfl (by decide) v l.length (eg2 l) hown ad news.length c (eg2 news) (eg2_len news)
      (fun j u hu => by
        rcases hs with rfl | ⟨b, off, h, _, hc⟩
        · simp [eg2] at hu
        · cases h
          rw [Addr.add_lit]
          exact eg2_read news off hc j u hu) (eg2_one news) (by unfold maxLen; omega) (by omega) hbase
    refine ⟨v', w', h1, ?_, h3⟩
    rw [List.length_append, eg2_append]
    exact h2
/-- append(v, l...) as a step. -/
theorem step_app2 {ops : Array Oper} {o : Oper} {a : Act} {w : World} {K : Act → World → Prop} {Q : Exit → Act → World → Prop} {E : Prop} (hgd : o.guard = none) (s x : Operand)
    (ho : o.op = .call { callee := .builtin .append, args := #[s, x], argTypes := #[44, 44] }) (v : Value) (hv : a.eval s = v) (l : List (Int × Int)) (base : Nat) (hown : w.ownsRow base 46 2 v l.length (eg2 l))
    (A : Option Addr) (n c : Nat) (hx : a.eval x = .slice A n c) (news : List (Int × Int)) (hn : n = news.length) (B : Nat) (hs : Es w B A news) (hl : l.length + news.length ≤ 100000) (hbase : base ≤ w.heap.size)
    (h : ∀ v' w', w'.ownsRow base 46 2 v' (l ++ news).length (eg2 (l ++ news)) → w.grownBy w' v.ownBlock → K (a.put o.dst v') w') : if Region.wanted o (yielded ops a.tmps) = true then Oper.wp Tryz.prog o a w K Q else E := by
  subst hn
  have hw : Region.wanted o (yielded ops a.tmps) = true := by simp [Region.wanted, hgd]
  rw [if_pos hw]
  obtain ⟨v', w', hr, h2, h3⟩ := run_app2 w base o.type v l hown B A c news hs hl hbase
  unfold Oper.wp execOp
  simp only [ho, resolve, invoke, builtin, Sem.run_bind, Sem.run_pure, Result.andThen_ok, List.map_toArray, List.map_cons, List.map_nil, hv, hx, hr]
  exact h v' w' h2 h3
theorem wpList_app2 {w : World} {ops : Array Oper} {rest : List Oper} {o : Oper} {a : Act} {Q : Exit → Act → World → Prop} (hgd : o.guard = none) (s x : Operand)
    (ho : o.op = .call { callee := .builtin .append, args := #[s, x], argTypes := #[44, 44] }) (v : Value) (hv : a.eval s = v) (l : List (Int × Int)) (base : Nat) (hown : w.ownsRow base 46 2 v l.length (eg2 l))
    (A : Option Addr) (n c : Nat) (hx : a.eval x = .slice A n c) (news : List (Int × Int)) (hn : n = news.length) (B : Nat) (hs : Es w B A news) (hl : l.length + news.length ≤ 100000) (hbase : base ≤ w.heap.size)
    (h : ∀ v' w', w'.ownsRow base 46 2 v' (l ++ news).length (eg2 (l ++ news)) → w.grownBy w' v.ownBlock → wpList Tryz.prog ops Q rest (a.put o.dst v') w') : wpList Tryz.prog ops Q (o :: rest) a w := by
  subst hn
  obtain ⟨v', w', hr, h2, h3⟩ := run_app2 w base o.type v l hown B A c news hs hl hbase
  refine wpList_plain hgd fun K hK => ?_
  unfold Oper.wp execOp
  simp only [ho, resolve, invoke, builtin, Sem.run_bind, Sem.run_pure, Result.andThen_ok, List.map_toArray, List.map_cons, List.map_nil, hv, hx, hr]
  exact hK _ _ (h v' w' h2 h3)
end Go.Proofs.YtgpciipemgljcaaGreat.Gp
