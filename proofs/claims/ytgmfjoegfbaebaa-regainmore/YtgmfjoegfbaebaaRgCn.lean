/-
  The walks of heard.counting (its closure), heard.count; the contract of the range over what counts. Conditions: at most 200 reports, at most 7 replicas.
-/
import Derived.Test.YtgmfjoegfbaebaaRgIt
import Derived.WalkKit
namespace Go.Proofs.Ytgmfjoegfbaebaa.Rg
open Go.RowKit Go.Shelf In
set_option linter.unusedVariables false
attribute [local go_sem] Oper.semAt_some

/-- What a block holds is told by cells alone. -/
theorem lay_own {β : Type} (B : Nat) (t : TypeId) (f : β → Array Value) : Own (fun s W => W.heap[B]? = some (.cells (f s) t (0, 0))) := fun s X Y row hs hg hrow => by
  have hlt : B < X.heap.size := lt_of_block hs
  refine (hg.block B hlt ?_).trans hs
  intro e
  obtain ⟨o, ho, hc⟩ := hrow B e.symm
  rw [hs] at ho
  cases ho
  cases hc
/-- .. where what a round has come to tells the block's cells, not what the block is. -/
theorem lay_ownp {β : Type} (B : Nat) (p : β → Obj → Prop) (hp : ∀ s o, p s o → o.isCells = true) : Own (fun s W => ∃ o, W.heap[B]? = some o ∧ p s o) := fun s X Y row hs hg hrow => by
  obtain ⟨o, hs, hq⟩ := hs
  have hlt : B < X.heap.size := (Array.getElem?_eq_some_iff.1 hs).1
  refine ⟨o, (hg.block B hlt ?_).trans hs, hq⟩
  intro e
  obtain ⟨o', ho, hc⟩ := hrow B e.symm
  rw [hs] at ho
  cases ho
  rw [hp s o hq] at hc
  cases hc

theorem counting_any (n : Nat) (o : Int) (A : Option Addr) (m c : Nat) (w : World) : Calls Try.prog 33 #[hv n o A m c] w (fun e w' => e = .returned (.func (.func 40) #[] #[.pointer (some ⟨w.heap.size, 0, none⟩)]) ∧ w' = w.alloc (.cells #[.int .i64 (n : Int), .int .i64 o, .slice A m c] 48)) := by
  go_enter Try.func33, Try.ntmps33
  go_wp2
  go_ret
  exact ⟨rfl, rfl⟩

/-- What counts, told one by one: all, or some first ones, where a round said 'no more'. -/
theorem stops (m : Nat) (hm : 1 ≤ m) (Bh n₀ n : Nat) (h7 : n ≤ 7) (o : Int) (A : Option Addr) (c : Nat) (L : List Rp) (hl : L.length ≤ 200) (w : World) (hH : Hx w Bh n o A L.length c) (hs : Ls w n₀ A L) (hn0 : n₀ ≤ w.heap.size) :
    SeqStopsK Fence.wide m Try.prog 40 #[.pointer (some ⟨Bh, 0, none⟩)] (fun x : Of L => #[rr x.1]) (Kq n₀ Bh) (fun ys => ys = cta L n) (fun pre => pre <+: cta L n) 7 w := fun l J Jx W hW hJ hJx hY h0 =>
  (iter_in m hm l Bh n₀ n h7 o A c L hl J Jx
    (fun s X Y h hb => hJ s X Y none h (grown_none hb) (fun r e => by cases e))
    hY W (hH.on hW hH.lt) (hs.below (hW.mono hn0)) (Nat.le_trans hn0 hW.size) h0)

set_option maxRecDepth 100000 in
set_option maxHeartbeats 2000000 in
theorem count_any (n : Nat) (h7 : n ≤ 7) (o : Int) (A : Option Addr) (c : Nat) (L : List Rp) (hl : L.length ≤ 200) (w : World) (hs : Ls w w.heap.size A L) :
    Calls Try.prog 31 #[hv n o A L.length c] w (IntP w ((cta L n).length : Int)) := by
  refine (callsIn_wide (n := 4)).1 ?_
  refine callsIn_of_wp_marks Try.func31 rfl trivial ?_ rfl
  simp only [Try.ntmps31, List.size_toArray, List.length_cons, List.length_nil, Nat.reduceAdd, Nat.reduceSub, Array.replicate_succ, Array.replicate_zero, List.push_toArray, List.append_toArray, List.nil_append, List.cons_append]
  gi_wp2_with fail
  refine ⟨trivial, ?_⟩
  refine (callsIn_wide.2 (counting_any n o A L.length c _)).mono ?_
  rintro e w' ⟨rfl, rfl⟩
  gi_wp2
  have B0 : Below w.heap.size w (((w.alloc (.cells #[.int .i64 (n : Int), .int .i64 o, .slice A L.length c] 48)).alloc (.cells #[.int .i64 0] 3)).alloc (.cells #[.int .i64 (n : Int), .int .i64 o, .slice A L.length c] 48)) := (((Below.refl _ w).alloc (Nat.le_refl _) _).alloc (by simp) _).alloc (by simp; omega) _
  have bN := (Boxed.new (w.alloc (.cells #[.int .i64 (n : Int), .int .i64 o, .slice A L.length c] 48)) 3 (.int .i64 0)).alloc (.cells #[.int .i64 (n : Int), .int .i64 o, .slice A L.length c] 48)
  have hX := hx_new ((w.alloc (.cells #[.int .i64 (n : Int), .int .i64 o, .slice A L.length c] 48)).alloc (.cells #[.int .i64 0] 3)) n o A L.length c
  have sz : (((w.alloc (.cells #[.int .i64 (n : Int), .int .i64 o, .slice A L.length c] 48)).alloc (.cells #[.int .i64 0] 3)).alloc (.cells #[.int .i64 (n : Int), .int .i64 o, .slice A L.length c] 48)).heap.size = w.heap.size + 3 := by simp
  simp only [World.size_alloc] at bN hX
  generalize ((w.alloc (.cells #[.int .i64 (n : Int), .int .i64 o, .slice A L.length c] 48)).alloc (.cells #[.int .i64 0] 3)).alloc (.cells #[.int .i64 (n : Int), .int .i64 o, .slice A L.length c] 48) = W0 at *
  refine wpIn_rangeFunc_ownG rfl (by omega) (gf := 40) (lb := #[.pointer (some ⟨w.heap.size + 1 + 1, 0, none⟩)]) rfl trivial (enters_of Try.func40 (by kernel_rfl) rfl)
    (stops (4 - 1) (by omega) (w.heap.size + 1 + 1) w.heap.size n h7 o A c L hl W0 hX (hs.below B0) B0.size) kq_t (kq_b (by omega) (by omega)) (Below.refl _ _) (fun _ => rfl)
    (fun pre W => Boxed W (w.heap.size + 1) 3 (.int .i64 (pre.length : Int)) ∧ Below w.heap.size w W)
    (fun _ _ _ => False)
    (OwnFrom.and (Own.from (boxed_own _ _ _) _) (ownFrom_below (Nat.le_refl _) (by omega)))
    (fun _ _ _ _ _ hs _ _ => hs)
    ⟨bN, B0⟩
    (fun x => { tmps := #[hv n o A L.length c, .pointer (some ⟨w.heap.size, 0, none⟩), .int .i64 0, .pointer (some ⟨w.heap.size + 1, 0, none⟩), hv n o A L.length c, .func (.func 40) #[] #[.pointer (some ⟨w.heap.size + 1 + 1, 0, none⟩)], rr x.1, undef, undef, undef], defers := [] }) ?assign ?body ?done ?stop
  case assign =>
    intro l x W K hK
    gi_wp2
    simpa using hK
  case body =>
    rintro l pre x W ⟨b1, hB⟩ hlen
    have c1 := b1.cell
    have f1 := b1.frozen
    have hw : wrap64 ((pre.length : Int) + 1) = (pre.length : Int) + 1 := by unfold wrap64; omega
    have e1 : (((pre ++ [x]).length : Nat) : Int) = (pre.length : Int) + 1 := by simp
    have E1 := Lib.hid e1
    clear e1
    gi_wp2
    exact ⟨(KeepsOthers.setCell _ _ _).from _, ⟨(Below.refl w.heap.size W).setCell (p := ⟨w.heap.size + 1, 0, none⟩) (by simp) _, Below.heap_setCell _ ⟨w.heap.size + 1, 0, none⟩ _ _ (by simp)⟩, by rw [E1.out]; exact b1.set _, hB.setCell (p := ⟨w.heap.size + 1, 0, none⟩) (by simp) _⟩
  case done =>
    rintro D ys W hD rfl ⟨b1, hB⟩ hK
    have c1 := b1.cell
    gi_wp2
    refine ⟨by simp, .inl ⟨_, _, rfl, run_takeDeferred hK, ?_⟩⟩
    exact ⟨_, results_tmp rfl _ _ _, rfl, hB.trans (belowK_b (w := w) (Nat.le_refl _) W D _ _ (by omega) hK rfl rfl)⟩
  case stop =>
    rintro D c pre W _ _ h _
    exact h.elim

end Go.Proofs.Ytgmfjoegfbaebaa.Rg
