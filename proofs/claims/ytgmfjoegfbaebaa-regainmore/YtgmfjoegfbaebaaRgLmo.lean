/-
  The walk of the law RegainMore: reports of those that there are not, and second ones of one, change nothing. No conditions.
-/
import Derived.Test.YtgmfjoegfbaebaaRgMt
import Derived.Test.YtgmfjoegfbaebaaRgOpen
import Derived.Deep.RegionHeld3
import Derived.Deep.QuietTactic
namespace Go.Proofs.Ytgmfjoegfbaebaa.Rg
open Go.RowKit In
set_option linter.unusedVariables false
attribute [local go_sem ↓ high] Ba.eq23 Ba.guard23 Ba.neq23 Ba.guard23n eqc guardc neqc guardcn

/-- A second report of the same replica's that tells what z does. -/
def tw (z x : Rp) : Rp := ⟨x.f, z.r, z.A, z.c⟩
def mm (z : Rp) (L : List Rp) (k : Nat) : List Rp := z :: L ++ (L.take k).map (tw z)
theorem mm_succ {z : Rp} {L : List Rp} {k : Nat} (h : k < L.length) : mm z L (k + 1) = mm z L k ++ [tw z L[k]] := by
  unfold mm
  rw [List.take_succ_eq_append_getElem h, List.map_append, ← List.append_assoc]
  rfl
theorem mm_len (z : Rp) (L : List Rp) (k : Nat) : (mm z L k).length ≤ 1 + L.length + L.length := by
  unfold mm
  simp
  omega
theorem mm_mem {z : Rp} {L : List Rp} {k : Nat} {x : Rp} (h : x ∈ mm z L k) : x ∈ L ∨ (x.A = z.A ∧ x.r = z.r) := by
  unfold mm at h
  rcases List.mem_append.1 h with h | h
  · rcases List.mem_cons.1 h with rfl | h
    · exact .inr ⟨rfl, rfl⟩
    · exact .inl h
  · obtain ⟨y, _, rfl⟩ := List.mem_map.1 h
    exact .inr ⟨rfl, rfl⟩
theorem fm_congr {f g : Nat → Option Rp} : ∀ l : List Nat, (∀ i ∈ l, f i = g i) → l.filterMap f = l.filterMap g
  | [], _ => rfl
  | i :: l, h => by
    have ih := fm_congr l (fun j hj => h j (List.mem_cons_of_mem _ hj))
    rw [List.filterMap_cons, List.filterMap_cons, h i List.mem_cons_self, ih]
theorem ct_more {z : Rp} {L : List Rp} {n : Nat} (hn : n ≤ 7) (hz : ¬ (1 ≤ z.f ∧ z.f ≤ 7)) : ct (mm z L L.length) n = ct L n := by
  unfold ct
  refine fm_congr _ (fun i hi => ?_)
  have hin := List.mem_range.1 hi
  unfold fd mm
  rw [List.take_length, List.cons_append, List.find?_cons_of_neg (by simp; omega), List.find?_append]
  rcases h : L.find? (fun x => decide (x.f = (i : Int) + 1)) with _ | x
  · rw [h, Option.none_or, List.find?_eq_none]
    intro y hy
    obtain ⟨x, hx, rfl⟩ := List.mem_map.1 hy
    exact List.find?_eq_none.1 h x hx
  · rw [h]
    rfl

theorem run_app14 (w : World) (base : Nat) (ty : TypeId) (v : Value) (l : List Rp) (hown : w.ownsRow base 44 14 v l.length (rls l)) (B : Nat) (A : Option Addr) (c : Nat) (news : List Rp) (hs : Ls w B A news) (hl : l.length + news.length ≤ 1000) (hbase : base ≤ w.heap.size) :
    ∃ v' w', (Builtin.append_ #[22, 22] ty #[v, .slice A news.length c]).run Try.prog w = .ok v' w' ∧ w'.ownsRow base 44 14 v' (l ++ news).length (rls (l ++ news)) ∧ w.grownBy w' v.ownBlock := by
  obtain ⟨i0, hi, hz0, hz1, hz2⟩ := info_parts info44
  rcases A with _ | ad
  · have hn : news = [] := by
      rcases hs with h | ⟨b, off, h, _⟩
      · exact h
      · cases h
    subst hn
    refine ⟨v, w, ?_, by simpa using hown, World.grownBy.refl w _⟩
    rcases hown.2 with ⟨rfl, h0⟩ | ⟨g, cap, cur, rfl, _, _, hnc, _⟩
    · rw [show Try.prog = Try.prog from rfl]
      simp [Builtin.append_, run_underlying Try.underlying22, sizeOf, typeInfo, hi, Builtin.lenOf, Builtin.firstCells]
    · simp [Builtin.append_, run_underlying Try.underlying22, sizeOf, typeInfo, hi, Builtin.lenOf, Builtin.firstCells, hnc, storeCells]
  · obtain ⟨v', w', h1, h2, h3, _⟩ := run_append_own (P := Try.prog) w base 22 ty 44 i0 _ 14 136 Try.underlying22 hi hz0 hz1 hz2 rfl (by decide) v l.length (rls l) hown ad news.length c (rls news) (rls_len news)
      (fun j u hu => by
        rcases hs with rfl | ⟨b, off, h, _, hc⟩
        · simp [rls] at hu
        · cases h
          rw [Addr.add_lit]
          exact rls_read news off (fun i x hx => (hc i x hx).1) j u hu) (rls_one news) (by unfold maxLen; omega) (by omega) hbase
    refine ⟨v', w', h1, ?_, h3⟩
    rw [List.length_append, rls_append]
    exact h2
theorem wpList_app14 {w : World} {ops : Array Oper} {rest : List Oper} {o : Oper} {a : Act} {Q : Exit → Act → World → Prop} (hgd : o.guard = none) (s x : Operand)
    (ho : o.op = .call { callee := .builtin .append, args := #[s, x], argTypes := #[22, 22] }) (base : Nat) (v : Value) (l : List Rp) (hv : a.eval s = v) (hown : w.ownsRow base 44 14 v l.length (rls l))
    (B : Nat) (A : Option Addr) (c : Nat) (news : List Rp) (hx : a.eval x = .slice A news.length c) (hs : Ls w B A news) (hl : l.length + news.length ≤ 1000) (hbase : base ≤ w.heap.size)
    (h : ∀ v' w', w'.ownsRow base 44 14 v' (l ++ news).length (rls (l ++ news)) → w.grownBy w' v.ownBlock → wpList Try.prog ops Q rest (a.put o.dst v') w') : wpList Try.prog ops Q (o :: rest) a w := by
  obtain ⟨v', w', hr, h2, h3⟩ := run_app14 w base o.type v l hown B A c news hs hl hbase
  refine wpList_plain hgd fun K hK => ?_
  unfold Oper.wp execOp
  simp only [ho, resolve, invoke, builtin, Sem.run_bind, Sem.run_pure, Result.andThen_ok, List.map_toArray, List.map_cons, List.map_nil, hv, hx, hr]
  exact hK _ _ (h v' w' h2 h3)
theorem step_one14 {ops : Array Oper} {o : Oper} {a : Act} {w : World} {K : Act → World → Prop} {Q : Exit → Act → World → Prop} {E : Prop} (hgd : o.guard = none) (s x : Operand)
    (ho : o.op = .call { callee := .builtin .append, args := #[s, x], argTypes := #[22, 22] }) (v : Value) (hv : a.eval s = v) (l : List Rp) (base : Nat) (hown : w.ownsRow base 44 14 v l.length (rls l))
    (G : Nat) (hx : a.eval x = .slice (some ⟨G, 0, none⟩) 1 1) (y : Rp) (hy : Ls w (G + 1) (some ⟨G, 0, none⟩) [y]) (hl : l.length ≤ 900) (hbase : base ≤ w.heap.size)
    (h : ∀ v' w', w'.ownsRow base 44 14 v' (l ++ [y]).length (rls (l ++ [y])) → w.grownBy w' v.ownBlock → K (a.put o.dst v') w') : if Region.wanted o (yielded ops a.tmps) = true then Oper.wp Try.prog o a w K Q else E := by
  have hw : Region.wanted o (yielded ops a.tmps) = true := by simp [Region.wanted, hgd]
  rw [if_pos hw]
  obtain ⟨v', w', hr, h2, h3⟩ := run_app14 w base o.type v l hown (G + 1) (some ⟨G, 0, none⟩) 1 [y] hy (by simp; omega) hbase
  unfold Oper.wp execOp
  simp only [List.length_cons, List.length_nil, Nat.zero_add] at hr
  simp only [ho, resolve, invoke, builtin, Sem.run_bind, Sem.run_pure, Result.andThen_ok, List.map_toArray, List.map_cons, List.map_nil, hv, hx, hr]
  exact h v' w' h2 h3
theorem one_rep (W : World) (y : Rp) (B : Nat) (hs : At.Sl W B .i64 y.A y.r.xs) (hB : B ≤ W.heap.size) : Ls (W.alloc (.cells (rpc y).toArray 44)) (W.heap.size + 1) (some ⟨W.heap.size, 0, none⟩) [y] := by
  refine .inr ⟨W.heap.size, 0, rfl, Nat.lt_succ_self _, fun j x hx => ?_⟩
  match j, hx with
  | 0, hx =>
    simp only [List.getElem?_cons_zero, Option.some.injEq] at hx
    subst hx
    refine ⟨⟨?_, ?_, ?_, ?_, ?_, ?_, ?_, ?_, ?_, ?_, ?_, ?_, ?_, ?_⟩, ?_⟩
    all_goals first | (simp; done) | skip
    exact ((hs.mono hB).below ((Below.refl _ _).alloc (Nat.le_refl _) _)).mono (Nat.le_succ _)
  | j + 1, hx => simp at hx
set_option maxHeartbeats 1000000 in
theorem more_a (n o : Int) (A : Option Addr) (c : Nat) (L : List Rp) (z : Rp) (w : World) (hs : Ls w w.heap.size A L) (hz : At.Sl w w.heap.size .i64 z.A z.r.xs) (hf : fw L = false) : Calls Try.prog 7 #[.int .i64 n, .int .i64 o, .slice A L.length c, rp z] w (UpPost w) := by
  have B0 : Below w.heap.size w (w.alloc (.cells #[.int .i64 z.f, .int .i64 z.r.st, .int .i64 z.r.pn, .int .i64 z.r.pb, .int .i64 z.r.vn, .int .i64 z.r.vb, .int .i64 z.r.u, .int .i64 z.r.s, .int .i64 z.r.k, .int .i64 z.r.h, .int .i64 z.r.n, .string z.r.t, .int .i64 z.r.q, .slice z.A z.r.xs.length z.c] 44)) := (Below.refl _ _).alloc (Nat.le_refl _) _
  have HA : Hid (Calls Try.prog 8 #[] (w.alloc (.cells #[.int .i64 z.f, .int .i64 z.r.st, .int .i64 z.r.pn, .int .i64 z.r.pb, .int .i64 z.r.vn, .int .i64 z.r.vb, .int .i64 z.r.u, .int .i64 z.r.s, .int .i64 z.r.k, .int .i64 z.r.h, .int .i64 z.r.n, .string z.r.t, .int .i64 z.r.q, .slice z.A z.r.xs.length z.c] 44)) (UpPost (w.alloc (.cells #[.int .i64 z.f, .int .i64 z.r.st, .int .i64 z.r.pn, .int .i64 z.r.pb, .int .i64 z.r.vn, .int .i64 z.r.vb, .int .i64 z.r.u, .int .i64 z.r.s, .int .i64 z.r.k, .int .i64 z.r.h, .int .i64 z.r.n, .string z.r.t, .int .i64 z.r.q, .slice z.A z.r.xs.length z.c] 44)))) := awake_any _
  have HF : ∀ V, Ls V V.heap.size A L → Hid (Calls Try.prog 9 #[.slice A L.length c] V (BoolPost V (fw L))) := fun V g => few_any A c L V g
  have Z0 : Rq (w.alloc (.cells #[.int .i64 z.f, .int .i64 z.r.st, .int .i64 z.r.pn, .int .i64 z.r.pb, .int .i64 z.r.vn, .int .i64 z.r.vb, .int .i64 z.r.u, .int .i64 z.r.s, .int .i64 z.r.k, .int .i64 z.r.h, .int .i64 z.r.n, .string z.r.t, .int .i64 z.r.q, .slice z.A z.r.xs.length z.c] 44)) w.heap.size 0 z := by
    refine ⟨?_, ?_, ?_, ?_, ?_, ?_, ?_, ?_, ?_, ?_, ?_, ?_, ?_, ?_⟩ <;> simp
  have zl : w.heap.size < (w.alloc (.cells #[.int .i64 z.f, .int .i64 z.r.st, .int .i64 z.r.pn, .int .i64 z.r.pb, .int .i64 z.r.vn, .int .i64 z.r.vb, .int .i64 z.r.u, .int .i64 z.r.s, .int .i64 z.r.k, .int .i64 z.r.h, .int .i64 z.r.n, .string z.r.t, .int .i64 z.r.q, .slice z.A z.r.xs.length z.c] 44)).heap.size := by simp
  have sb : (w.alloc (.cells #[.int .i64 z.f, .int .i64 z.r.st, .int .i64 z.r.pn, .int .i64 z.r.pb, .int .i64 z.r.vn, .int .i64 z.r.vb, .int .i64 z.r.u, .int .i64 z.r.s, .int .i64 z.r.k, .int .i64 z.r.h, .int .i64 z.r.n, .string z.r.t, .int .i64 z.r.q, .slice z.A z.r.xs.length z.c] 44)).heap.size = w.heap.size + 1 := by simp
  rw [hf] at HF
  clear hf
  go_enter Try.func7, Try.ntmps7
  go_wp2_with fail
  generalize w.alloc (.cells #[.int .i64 z.f, .int .i64 z.r.st, .int .i64 z.r.pn, .int .i64 z.r.pb, .int .i64 z.r.vn, .int .i64 z.r.vb, .int .i64 z.r.u, .int .i64 z.r.s, .int .i64 z.r.k, .int .i64 z.r.h, .int .i64 z.r.n, .string z.r.t, .int .i64 z.r.q, .slice z.A z.r.xs.length z.c] 44) = wb at *
  refine HA.out.mono ?_
  rintro e w1 ⟨rfl, b1⟩
  have S1 := hs.to (B0.trans (b1.mono B0.size)) (B0.trans (b1.mono B0.size)).size
  clear HA
  go_wp2_with fail
  refine (HF w1 S1).out.mono ?_
  rintro e w2 ⟨rfl, b2⟩
  have R2 := b1.trans (b2.mono b1.size)
  have B2 := B0.trans (R2.mono B0.size)
  have Z2 := Z0.on R2 zl
  clear HF S1 b1 b2
  obtain ⟨z0, z1, z2, z3, z4, z5, z6, z7, z8, z9, z10, z11, z12, z13⟩ := id Z2
  go_wp2
  go_ret
  exact ⟨rfl, B2⟩
set_option maxHeartbeats 1000000 in
theorem more_b (n o : Int) (A : Option Addr) (c : Nat) (L : List Rp) (z : Rp) (w : World) (hs : Ls w w.heap.size A L) (hz : At.Sl w w.heap.size .i64 z.A z.r.xs) (hf : fw L = true) (h30 : 30 < (L.length : Int)) : Calls Try.prog 7 #[.int .i64 n, .int .i64 o, .slice A L.length c, rp z] w (UpPost w) := by
  have B0 : Below w.heap.size w (w.alloc (.cells #[.int .i64 z.f, .int .i64 z.r.st, .int .i64 z.r.pn, .int .i64 z.r.pb, .int .i64 z.r.vn, .int .i64 z.r.vb, .int .i64 z.r.u, .int .i64 z.r.s, .int .i64 z.r.k, .int .i64 z.r.h, .int .i64 z.r.n, .string z.r.t, .int .i64 z.r.q, .slice z.A z.r.xs.length z.c] 44)) := (Below.refl _ _).alloc (Nat.le_refl _) _
  have HA : Hid (Calls Try.prog 8 #[] (w.alloc (.cells #[.int .i64 z.f, .int .i64 z.r.st, .int .i64 z.r.pn, .int .i64 z.r.pb, .int .i64 z.r.vn, .int .i64 z.r.vb, .int .i64 z.r.u, .int .i64 z.r.s, .int .i64 z.r.k, .int .i64 z.r.h, .int .i64 z.r.n, .string z.r.t, .int .i64 z.r.q, .slice z.A z.r.xs.length z.c] 44)) (UpPost (w.alloc (.cells #[.int .i64 z.f, .int .i64 z.r.st, .int .i64 z.r.pn, .int .i64 z.r.pb, .int .i64 z.r.vn, .int .i64 z.r.vb, .int .i64 z.r.u, .int .i64 z.r.s, .int .i64 z.r.k, .int .i64 z.r.h, .int .i64 z.r.n, .string z.r.t, .int .i64 z.r.q, .slice z.A z.r.xs.length z.c] 44)))) := awake_any _
  have HF : ∀ V, Ls V V.heap.size A L → Hid (Calls Try.prog 9 #[.slice A L.length c] V (BoolPost V (fw L))) := fun V g => few_any A c L V g
  have Z0 : Rq (w.alloc (.cells #[.int .i64 z.f, .int .i64 z.r.st, .int .i64 z.r.pn, .int .i64 z.r.pb, .int .i64 z.r.vn, .int .i64 z.r.vb, .int .i64 z.r.u, .int .i64 z.r.s, .int .i64 z.r.k, .int .i64 z.r.h, .int .i64 z.r.n, .string z.r.t, .int .i64 z.r.q, .slice z.A z.r.xs.length z.c] 44)) w.heap.size 0 z := by
    refine ⟨?_, ?_, ?_, ?_, ?_, ?_, ?_, ?_, ?_, ?_, ?_, ?_, ?_, ?_⟩ <;> simp
  have zl : w.heap.size < (w.alloc (.cells #[.int .i64 z.f, .int .i64 z.r.st, .int .i64 z.r.pn, .int .i64 z.r.pb, .int .i64 z.r.vn, .int .i64 z.r.vb, .int .i64 z.r.u, .int .i64 z.r.s, .int .i64 z.r.k, .int .i64 z.r.h, .int .i64 z.r.n, .string z.r.t, .int .i64 z.r.q, .slice z.A z.r.xs.length z.c] 44)).heap.size := by simp
  have sb : (w.alloc (.cells #[.int .i64 z.f, .int .i64 z.r.st, .int .i64 z.r.pn, .int .i64 z.r.pb, .int .i64 z.r.vn, .int .i64 z.r.vb, .int .i64 z.r.u, .int .i64 z.r.s, .int .i64 z.r.k, .int .i64 z.r.h, .int .i64 z.r.n, .string z.r.t, .int .i64 z.r.q, .slice z.A z.r.xs.length z.c] 44)).heap.size = w.heap.size + 1 := by simp
  rw [hf] at HF
  clear hf
  go_enter Try.func7, Try.ntmps7
  go_wp2_with fail
  generalize w.alloc (.cells #[.int .i64 z.f, .int .i64 z.r.st, .int .i64 z.r.pn, .int .i64 z.r.pb, .int .i64 z.r.vn, .int .i64 z.r.vb, .int .i64 z.r.u, .int .i64 z.r.s, .int .i64 z.r.k, .int .i64 z.r.h, .int .i64 z.r.n, .string z.r.t, .int .i64 z.r.q, .slice z.A z.r.xs.length z.c] 44) = wb at *
  refine HA.out.mono ?_
  rintro e w1 ⟨rfl, b1⟩
  have S1 := hs.to (B0.trans (b1.mono B0.size)) (B0.trans (b1.mono B0.size)).size
  clear HA
  go_wp2_with fail
  refine (HF w1 S1).out.mono ?_
  rintro e w2 ⟨rfl, b2⟩
  have R2 := b1.trans (b2.mono b1.size)
  have B2 := B0.trans (R2.mono B0.size)
  have Z2 := Z0.on R2 zl
  clear HF S1 b1 b2
  obtain ⟨z0, z1, z2, z3, z4, z5, z6, z7, z8, z9, z10, z11, z12, z13⟩ := id Z2
  go_wp2
  go_ret
  exact ⟨rfl, B2⟩
set_option maxHeartbeats 1000000 in
theorem more_c (n o : Int) (A : Option Addr) (c : Nat) (L : List Rp) (z : Rp) (w : World) (hs : Ls w w.heap.size A L) (hz : At.Sl w w.heap.size .i64 z.A z.r.xs) (hf : fw L = true) (h30 : ¬ 30 < (L.length : Int)) (h50 : 50 < (z.r.xs.length : Int)) : Calls Try.prog 7 #[.int .i64 n, .int .i64 o, .slice A L.length c, rp z] w (UpPost w) := by
  have B0 : Below w.heap.size w (w.alloc (.cells #[.int .i64 z.f, .int .i64 z.r.st, .int .i64 z.r.pn, .int .i64 z.r.pb, .int .i64 z.r.vn, .int .i64 z.r.vb, .int .i64 z.r.u, .int .i64 z.r.s, .int .i64 z.r.k, .int .i64 z.r.h, .int .i64 z.r.n, .string z.r.t, .int .i64 z.r.q, .slice z.A z.r.xs.length z.c] 44)) := (Below.refl _ _).alloc (Nat.le_refl _) _
  have HA : Hid (Calls Try.prog 8 #[] (w.alloc (.cells #[.int .i64 z.f, .int .i64 z.r.st, .int .i64 z.r.pn, .int .i64 z.r.pb, .int .i64 z.r.vn, .int .i64 z.r.vb, .int .i64 z.r.u, .int .i64 z.r.s, .int .i64 z.r.k, .int .i64 z.r.h, .int .i64 z.r.n, .string z.r.t, .int .i64 z.r.q, .slice z.A z.r.xs.length z.c] 44)) (UpPost (w.alloc (.cells #[.int .i64 z.f, .int .i64 z.r.st, .int .i64 z.r.pn, .int .i64 z.r.pb, .int .i64 z.r.vn, .int .i64 z.r.vb, .int .i64 z.r.u, .int .i64 z.r.s, .int .i64 z.r.k, .int .i64 z.r.h, .int .i64 z.r.n, .string z.r.t, .int .i64 z.r.q, .slice z.A z.r.xs.length z.c] 44)))) := awake_any _
  have HF : ∀ V, Ls V V.heap.size A L → Hid (Calls Try.prog 9 #[.slice A L.length c] V (BoolPost V (fw L))) := fun V g => few_any A c L V g
  have Z0 : Rq (w.alloc (.cells #[.int .i64 z.f, .int .i64 z.r.st, .int .i64 z.r.pn, .int .i64 z.r.pb, .int .i64 z.r.vn, .int .i64 z.r.vb, .int .i64 z.r.u, .int .i64 z.r.s, .int .i64 z.r.k, .int .i64 z.r.h, .int .i64 z.r.n, .string z.r.t, .int .i64 z.r.q, .slice z.A z.r.xs.length z.c] 44)) w.heap.size 0 z := by
    refine ⟨?_, ?_, ?_, ?_, ?_, ?_, ?_, ?_, ?_, ?_, ?_, ?_, ?_, ?_⟩ <;> simp
  have zl : w.heap.size < (w.alloc (.cells #[.int .i64 z.f, .int .i64 z.r.st, .int .i64 z.r.pn, .int .i64 z.r.pb, .int .i64 z.r.vn, .int .i64 z.r.vb, .int .i64 z.r.u, .int .i64 z.r.s, .int .i64 z.r.k, .int .i64 z.r.h, .int .i64 z.r.n, .string z.r.t, .int .i64 z.r.q, .slice z.A z.r.xs.length z.c] 44)).heap.size := by simp
  have sb : (w.alloc (.cells #[.int .i64 z.f, .int .i64 z.r.st, .int .i64 z.r.pn, .int .i64 z.r.pb, .int .i64 z.r.vn, .int .i64 z.r.vb, .int .i64 z.r.u, .int .i64 z.r.s, .int .i64 z.r.k, .int .i64 z.r.h, .int .i64 z.r.n, .string z.r.t, .int .i64 z.r.q, .slice z.A z.r.xs.length z.c] 44)).heap.size = w.heap.size + 1 := by simp
  rw [hf] at HF
  clear hf
  go_enter Try.func7, Try.ntmps7
  go_wp2_with fail
  generalize w.alloc (.cells #[.int .i64 z.f, .int .i64 z.r.st, .int .i64 z.r.pn, .int .i64 z.r.pb, .int .i64 z.r.vn, .int .i64 z.r.vb, .int .i64 z.r.u, .int .i64 z.r.s, .int .i64 z.r.k, .int .i64 z.r.h, .int .i64 z.r.n, .string z.r.t, .int .i64 z.r.q, .slice z.A z.r.xs.length z.c] 44) = wb at *
  refine HA.out.mono ?_
  rintro e w1 ⟨rfl, b1⟩
  have S1 := hs.to (B0.trans (b1.mono B0.size)) (B0.trans (b1.mono B0.size)).size
  clear HA
  go_wp2_with fail
  refine (HF w1 S1).out.mono ?_
  rintro e w2 ⟨rfl, b2⟩
  have R2 := b1.trans (b2.mono b1.size)
  have B2 := B0.trans (R2.mono B0.size)
  have Z2 := Z0.on R2 zl
  clear HF S1 b1 b2
  obtain ⟨z0, z1, z2, z3, z4, z5, z6, z7, z8, z9, z10, z11, z12, z13⟩ := id Z2
  go_wp2
  go_ret
  exact ⟨rfl, B2⟩
set_option maxHeartbeats 1000000 in
theorem more_d (n o : Int) (A : Option Addr) (c : Nat) (L : List Rp) (z : Rp) (w : World) (hs : Ls w w.heap.size A L) (hz : At.Sl w w.heap.size .i64 z.A z.r.xs) (hf : fw L = true) (h30 : ¬ 30 < (L.length : Int)) (h50 : ¬ 50 < (z.r.xs.length : Int)) (h1 : 1 ≤ z.f) (h7 : z.f ≤ 7) : Calls Try.prog 7 #[.int .i64 n, .int .i64 o, .slice A L.length c, rp z] w (UpPost w) := by
  have B0 : Below w.heap.size w (w.alloc (.cells #[.int .i64 z.f, .int .i64 z.r.st, .int .i64 z.r.pn, .int .i64 z.r.pb, .int .i64 z.r.vn, .int .i64 z.r.vb, .int .i64 z.r.u, .int .i64 z.r.s, .int .i64 z.r.k, .int .i64 z.r.h, .int .i64 z.r.n, .string z.r.t, .int .i64 z.r.q, .slice z.A z.r.xs.length z.c] 44)) := (Below.refl _ _).alloc (Nat.le_refl _) _
  have HA : Hid (Calls Try.prog 8 #[] (w.alloc (.cells #[.int .i64 z.f, .int .i64 z.r.st, .int .i64 z.r.pn, .int .i64 z.r.pb, .int .i64 z.r.vn, .int .i64 z.r.vb, .int .i64 z.r.u, .int .i64 z.r.s, .int .i64 z.r.k, .int .i64 z.r.h, .int .i64 z.r.n, .string z.r.t, .int .i64 z.r.q, .slice z.A z.r.xs.length z.c] 44)) (UpPost (w.alloc (.cells #[.int .i64 z.f, .int .i64 z.r.st, .int .i64 z.r.pn, .int .i64 z.r.pb, .int .i64 z.r.vn, .int .i64 z.r.vb, .int .i64 z.r.u, .int .i64 z.r.s, .int .i64 z.r.k, .int .i64 z.r.h, .int .i64 z.r.n, .string z.r.t, .int .i64 z.r.q, .slice z.A z.r.xs.length z.c] 44)))) := awake_any _
  have HF : ∀ V, Ls V V.heap.size A L → Hid (Calls Try.prog 9 #[.slice A L.length c] V (BoolPost V (fw L))) := fun V g => few_any A c L V g
  have Z0 : Rq (w.alloc (.cells #[.int .i64 z.f, .int .i64 z.r.st, .int .i64 z.r.pn, .int .i64 z.r.pb, .int .i64 z.r.vn, .int .i64 z.r.vb, .int .i64 z.r.u, .int .i64 z.r.s, .int .i64 z.r.k, .int .i64 z.r.h, .int .i64 z.r.n, .string z.r.t, .int .i64 z.r.q, .slice z.A z.r.xs.length z.c] 44)) w.heap.size 0 z := by
    refine ⟨?_, ?_, ?_, ?_, ?_, ?_, ?_, ?_, ?_, ?_, ?_, ?_, ?_, ?_⟩ <;> simp
  have zl : w.heap.size < (w.alloc (.cells #[.int .i64 z.f, .int .i64 z.r.st, .int .i64 z.r.pn, .int .i64 z.r.pb, .int .i64 z.r.vn, .int .i64 z.r.vb, .int .i64 z.r.u, .int .i64 z.r.s, .int .i64 z.r.k, .int .i64 z.r.h, .int .i64 z.r.n, .string z.r.t, .int .i64 z.r.q, .slice z.A z.r.xs.length z.c] 44)).heap.size := by simp
  have sb : (w.alloc (.cells #[.int .i64 z.f, .int .i64 z.r.st, .int .i64 z.r.pn, .int .i64 z.r.pb, .int .i64 z.r.vn, .int .i64 z.r.vb, .int .i64 z.r.u, .int .i64 z.r.s, .int .i64 z.r.k, .int .i64 z.r.h, .int .i64 z.r.n, .string z.r.t, .int .i64 z.r.q, .slice z.A z.r.xs.length z.c] 44)).heap.size = w.heap.size + 1 := by simp
  rw [hf] at HF
  clear hf
  go_enter Try.func7, Try.ntmps7
  go_wp2_with fail
  generalize w.alloc (.cells #[.int .i64 z.f, .int .i64 z.r.st, .int .i64 z.r.pn, .int .i64 z.r.pb, .int .i64 z.r.vn, .int .i64 z.r.vb, .int .i64 z.r.u, .int .i64 z.r.s, .int .i64 z.r.k, .int .i64 z.r.h, .int .i64 z.r.n, .string z.r.t, .int .i64 z.r.q, .slice z.A z.r.xs.length z.c] 44) = wb at *
  refine HA.out.mono ?_
  rintro e w1 ⟨rfl, b1⟩
  have S1 := hs.to (B0.trans (b1.mono B0.size)) (B0.trans (b1.mono B0.size)).size
  clear HA
  go_wp2_with fail
  refine (HF w1 S1).out.mono ?_
  rintro e w2 ⟨rfl, b2⟩
  have R2 := b1.trans (b2.mono b1.size)
  have B2 := B0.trans (R2.mono B0.size)
  have Z2 := Z0.on R2 zl
  clear HF S1 b1 b2
  obtain ⟨z0, z1, z2, z3, z4, z5, z6, z7, z8, z9, z10, z11, z12, z13⟩ := id Z2
  go_wp2
  go_ret
  exact ⟨rfl, B2⟩
set_option maxHeartbeats 2000000 in
theorem more_go1 (n o : Int) (A : Option Addr) (c : Nat) (L : List Rp) (z : Rp) (w : World) (hs : Ls w w.heap.size A L) (hz : At.Sl w w.heap.size .i64 z.A z.r.xs) (hf : fw L = true) (h30 : ¬ 30 < (L.length : Int)) (h50 : ¬ 50 < (z.r.xs.length : Int)) (hz1 : ¬ 1 ≤ z.f) : Calls Try.prog 7 #[.int .i64 n, .int .i64 o, .slice A L.length c, rp z] w (UpPost w) := by
  have hz7 : ¬ (1 ≤ z.f ∧ z.f ≤ 7) := fun h => hz1 h.1
  have hk := fw_few hf
  have hfw := Few.le hk.1 hk.2
  have hfm : Few (mm z L L.length) := ⟨by have := mm_len z L L.length; omega, fun x hx => by
    rcases mm_mem hx with h | ⟨_, h⟩
    · exact hfw.2 x h
    · rw [h]; omega⟩
  have hcm := ct_more (L := L) (am_le n) hz7
  have h1 : ∀ V, Ls V V.heap.size A L → Hid (Calls Try.prog 11 #[.int .i64 n, .int .i64 o, .slice A L.length c] V (ChP V (dc o (am n) (ct L (am n))))) := fun V g => Decide_any n o A c L hfw V g
  have h2 : ∀ V A9 c9, Ls V V.heap.size A9 (mm z L L.length) → Hid (Calls Try.prog 11 #[.int .i64 n, .int .i64 o, .slice A9 (mm z L L.length).length c9] V (ChP V (dc o (am n) (ct L (am n))))) := fun V A9 c9 g => by
    have := Decide_any n o A9 c9 _ hfm V g
    rw [hcm] at this
    exact this
  have h3 : ∀ V A1 A2 c1 c2, At.Sl V V.heap.size .i64 A1 (dc o (am n) (ct L (am n))).xs → At.Sl V V.heap.size .i64 A2 (dc o (am n) (ct L (am n))).xs → Hid (Calls Try.prog 10 #[chv (dc o (am n) (ct L (am n))) A1 c1, chv (dc o (am n) (ct L (am n))) A2 c2] V (BoolPost V true)) := fun V A1 A2 c1 c2 g g' => by
    have hl := dc_len (o := o) (n := am n) hfw.2
    have := csame_any _ _ A1 A2 c1 c2 V g g' hl hl
    rw [cs_self] at this
    exact this
  have h4 : ∀ V, Ls V V.heap.size A L → Hid (Calls Try.prog 15 #[.int .i64 n, .int .i64 o, .slice A L.length c] V (BoolPost V (fs o (am n) (ct L (am n))))) := fun V g => Fast_any n o A c L hfw V g
  have h5 : ∀ V A9 c9, Ls V V.heap.size A9 (mm z L L.length) → Hid (Calls Try.prog 15 #[.int .i64 n, .int .i64 o, .slice A9 (mm z L L.length).length c9] V (BoolPost V (fs o (am n) (ct L (am n))))) := fun V A9 c9 g => by
    have := Fast_any n o A9 c9 _ hfm V g
    rw [hcm] at this
    exact this
  generalize dc o (am n) (ct L (am n)) = d at *
  generalize fs o (am n) (ct L (am n)) = ff at *
  have hl30 : L.length ≤ 30 := by omega
  clear hfw hfm hk hcm hz7
  have B0 : Below w.heap.size w (w.alloc (.cells #[.int .i64 z.f, .int .i64 z.r.st, .int .i64 z.r.pn, .int .i64 z.r.pb, .int .i64 z.r.vn, .int .i64 z.r.vb, .int .i64 z.r.u, .int .i64 z.r.s, .int .i64 z.r.k, .int .i64 z.r.h, .int .i64 z.r.n, .string z.r.t, .int .i64 z.r.q, .slice z.A z.r.xs.length z.c] 44)) := (Below.refl _ _).alloc (Nat.le_refl _) _
  have HA : Hid (Calls Try.prog 8 #[] (w.alloc (.cells #[.int .i64 z.f, .int .i64 z.r.st, .int .i64 z.r.pn, .int .i64 z.r.pb, .int .i64 z.r.vn, .int .i64 z.r.vb, .int .i64 z.r.u, .int .i64 z.r.s, .int .i64 z.r.k, .int .i64 z.r.h, .int .i64 z.r.n, .string z.r.t, .int .i64 z.r.q, .slice z.A z.r.xs.length z.c] 44)) (UpPost (w.alloc (.cells #[.int .i64 z.f, .int .i64 z.r.st, .int .i64 z.r.pn, .int .i64 z.r.pb, .int .i64 z.r.vn, .int .i64 z.r.vb, .int .i64 z.r.u, .int .i64 z.r.s, .int .i64 z.r.k, .int .i64 z.r.h, .int .i64 z.r.n, .string z.r.t, .int .i64 z.r.q, .slice z.A z.r.xs.length z.c] 44)))) := awake_any _
  have HF : ∀ V, Ls V V.heap.size A L → Hid (Calls Try.prog 9 #[.slice A L.length c] V (BoolPost V (fw L))) := fun V g => few_any A c L V g
  have Z0 : Rq (w.alloc (.cells #[.int .i64 z.f, .int .i64 z.r.st, .int .i64 z.r.pn, .int .i64 z.r.pb, .int .i64 z.r.vn, .int .i64 z.r.vb, .int .i64 z.r.u, .int .i64 z.r.s, .int .i64 z.r.k, .int .i64 z.r.h, .int .i64 z.r.n, .string z.r.t, .int .i64 z.r.q, .slice z.A z.r.xs.length z.c] 44)) w.heap.size 0 z := by
    refine ⟨?_, ?_, ?_, ?_, ?_, ?_, ?_, ?_, ?_, ?_, ?_, ?_, ?_, ?_⟩ <;> simp
  have zl : w.heap.size < (w.alloc (.cells #[.int .i64 z.f, .int .i64 z.r.st, .int .i64 z.r.pn, .int .i64 z.r.pb, .int .i64 z.r.vn, .int .i64 z.r.vb, .int .i64 z.r.u, .int .i64 z.r.s, .int .i64 z.r.k, .int .i64 z.r.h, .int .i64 z.r.n, .string z.r.t, .int .i64 z.r.q, .slice z.A z.r.xs.length z.c] 44)).heap.size := by simp
  have sb : (w.alloc (.cells #[.int .i64 z.f, .int .i64 z.r.st, .int .i64 z.r.pn, .int .i64 z.r.pb, .int .i64 z.r.vn, .int .i64 z.r.vb, .int .i64 z.r.u, .int .i64 z.r.s, .int .i64 z.r.k, .int .i64 z.r.h, .int .i64 z.r.n, .string z.r.t, .int .i64 z.r.q, .slice z.A z.r.xs.length z.c] 44)).heap.size = w.heap.size + 1 := by simp
  rw [hf] at HF
  clear hf
  go_enter Try.func7, Try.ntmps7
  go_wp2_with fail
  generalize w.alloc (.cells #[.int .i64 z.f, .int .i64 z.r.st, .int .i64 z.r.pn, .int .i64 z.r.pb, .int .i64 z.r.vn, .int .i64 z.r.vb, .int .i64 z.r.u, .int .i64 z.r.s, .int .i64 z.r.k, .int .i64 z.r.h, .int .i64 z.r.n, .string z.r.t, .int .i64 z.r.q, .slice z.A z.r.xs.length z.c] 44) = wb at *
  refine HA.out.mono ?_
  rintro e w1 ⟨rfl, b1⟩
  have S1 := hs.to (B0.trans (b1.mono B0.size)) (B0.trans (b1.mono B0.size)).size
  clear HA
  go_wp2_with fail
  refine (HF w1 S1).out.mono ?_
  rintro e w2 ⟨rfl, b2⟩
  have R2 := b1.trans (b2.mono b1.size)
  have B2 := B0.trans (R2.mono B0.size)
  have Z2 := Z0.on R2 zl
  clear HF S1 b1 b2
  obtain ⟨z0, z1, z2, z3, z4, z5, z6, z7, z8, z9, z10, z11, z12, z13⟩ := id Z2
  have S2 := hs.to B2 B2.size
  have KS := Lib.hid (hs.below B0)
  have KZ := Lib.hid Z0
  have KB := Lib.hid B0
  have own0 : (w2.alloc (.cells #[.int .i64 z.f, .int .i64 z.r.st, .int .i64 z.r.pn, .int .i64 z.r.pb, .int .i64 z.r.vn, .int .i64 z.r.vb, .int .i64 z.r.u, .int .i64 z.r.s, .int .i64 z.r.k, .int .i64 z.r.h, .int .i64 z.r.n, .string z.r.t, .int .i64 z.r.q, .slice z.A z.r.xs.length z.c] 44)).ownsRow wb.heap.size 44 14 (.slice (some ⟨w2.heap.size, 0, none⟩) 1 1) [z].length (rls [z]) := World.ownsRow_lit w2 #[.int .i64 z.f, .int .i64 z.r.st, .int .i64 z.r.pn, .int .i64 z.r.pb, .int .i64 z.r.vn, .int .i64 z.r.vb, .int .i64 z.r.u, .int .i64 z.r.s, .int .i64 z.r.k, .int .i64 z.r.h, .int .i64 z.r.n, .string z.r.t, .int .i64 z.r.q, .slice z.A z.r.xs.length z.c] 1 R2.size (by unfold maxLen; omega) rfl
  have a2 : Below w2.heap.size w2 (w2.alloc (.cells #[.int .i64 z.f, .int .i64 z.r.st, .int .i64 z.r.pn, .int .i64 z.r.pb, .int .i64 z.r.vn, .int .i64 z.r.vb, .int .i64 z.r.u, .int .i64 z.r.s, .int .i64 z.r.k, .int .i64 z.r.h, .int .i64 z.r.n, .string z.r.t, .int .i64 z.r.q, .slice z.A z.r.xs.length z.c] 44)) := (Below.refl _ _).alloc (Nat.le_refl _) _
  have R3 := R2.trans (a2.mono R2.size)
  have S3 := S2.below a2
  have l2 := R2.size
  clear Z0 Z2 B0 B2 S2
  go_wp2_with (at_builtin; refine wpList_app14 rfl (.tmp 48) (.tmp 49) rfl wb.heap.size _ [z] rfl own0 w2.heap.size A c L rfl S3 (by simp; omega) R3.size ?_; intro v4 w4 own4 grow4)
  have R4 := R3.grown grow4 R3.size (fun q hq => (own0.lt q hq).1)
  have own5 : w4.ownsRow wb.heap.size 44 14 v4 (mm z L 0).length (rls (mm z L 0)) := by
    have e : mm z L 0 = [z] ++ L := by simp [mm]
    rw [e]
    exact own4
  clear own0 own4 R3 R2 S3 a2 grow4 z0 z1 z2 z3 z4 z5 z6 z7 z8 z9 z10 z11 z12 z13
  go_loopw [11, 12] (fun v t wr => ∃ (k : Nat) (v0 : Value), v0 = v ∧ k ≤ L.length ∧ t = .int .i64 (k : Int) ∧ wr.ownsRow wb.heap.size 44 14 v0 (mm z L k).length (rls (mm z L k)) ∧ Below wb.heap.size wb wr) (fun _ t _ => 101 - (intOf t).toNat)
  case atStart => exact ⟨0, _, rfl, Nat.zero_le _, rfl, own5, R4⟩
  case round =>
    obtain ⟨k, v0, rfl, hk, rfl, own3, R3⟩ := hrel
    clear own5 R4
    by_cases hil : k < L.length
    · have hili : (k : Int) < (L.length : Int) := by omega
      have hil0 : (0 : Int) ≤ (k : Int) := by omega
      have E9 := Lib.hid (mm_succ (z := z) hil)
      have hml : Hid ((mm z L k).length ≤ 900) := Lib.hid (by have := mm_len z L k; omega)
      obtain ⟨b, off, hA, hbB, hq, _⟩ := KS.out.at_ hil
      generalize L[k] = x at *
      subst hA
      have hbw : b < wb.heap.size := by omega
      have hqr := hq.on R3 hbw
      obtain ⟨q0, q1, q2, q3, q4, q5, q6, q7, q8, q9, q10, q11, q12, q13⟩ := id hqr
      have OWN : Hid ((wr.drew.alloc (.cells #[.int .i64 x.f, .int .i64 z.r.st, .int .i64 z.r.pn, .int .i64 z.r.pb, .int .i64 z.r.vn, .int .i64 z.r.vb, .int .i64 z.r.u, .int .i64 z.r.s, .int .i64 z.r.k, .int .i64 z.r.h, .int .i64 z.r.n, .string z.r.t, .int .i64 z.r.q, .slice z.A z.r.xs.length z.c] 44)).ownsRow wb.heap.size 44 14 v0 (mm z L k).length (rls (mm z L k))) := Lib.hid ((own_below own3 (Below.refl _ _).drew).alloc _)
      have OR : Hid (Ls (wr.drew.alloc (.cells #[.int .i64 x.f, .int .i64 z.r.st, .int .i64 z.r.pn, .int .i64 z.r.pb, .int .i64 z.r.vn, .int .i64 z.r.vb, .int .i64 z.r.u, .int .i64 z.r.s, .int .i64 z.r.k, .int .i64 z.r.h, .int .i64 z.r.n, .string z.r.t, .int .i64 z.r.q, .slice z.A z.r.xs.length z.c] 44)) (wr.heap.size + 1) (some ⟨wr.heap.size, 0, none⟩) [tw z x]) := Lib.hid (one_rep wr.drew (tw z x) wr.heap.size ((hz.to (KB.out.trans (R3.drew.mono KB.out.size)) (KB.out.trans (R3.drew.mono KB.out.size)).size)) (Nat.le_refl _))
      have hbs : Hid (wb.heap.size ≤ (wr.drew.alloc (.cells #[.int .i64 x.f, .int .i64 z.r.st, .int .i64 z.r.pn, .int .i64 z.r.pb, .int .i64 z.r.vn, .int .i64 z.r.vb, .int .i64 z.r.u, .int .i64 z.r.s, .int .i64 z.r.k, .int .i64 z.r.h, .int .i64 z.r.n, .string z.r.t, .int .i64 z.r.q, .slice z.A z.r.xs.length z.c] 44)).heap.size) := Lib.hid (Nat.le_trans R3.size (by simp))
      have SB : Hid (∀ v, Below wb.heap.size wb v → v.cell? ⟨b, off + k * 14, none⟩ = some (.int .i64 x.f) ∧ Rq v w.heap.size 0 z) := Lib.hid (fun v g => ⟨(hq.on g hbw).1, KZ.out.on g zl⟩)
      have BD : Hid (Below wb.heap.size wb wr.drew) := R3.drew
      clear own3 R3 hq hqr q1 q2 q3 q4 q5 q6 q7 q8 q9 q10 q11 q12 q13
      go_wp2
      refine wp_region_held_drew (S := fun v => Below wb.heap.size wb v) (by kernel_rfl) BD.out (fun hH => ?_)
      refine wpAnyH_take (i := 0) (v := ?v79) rfl (by kernel_rfl) (by kernel_rfl) (by kernel_rfl) (fun _ _ _ h => h) (Or.inl ⟨by rfl, ?hy79⟩) hH ?rest79
      case hy79 => (intro w hSw; (try dsimp only at hSw); go_simp; try with_reducible rfl)
      try simp only [Act.put, List.setIfInBounds_toArray, List.set_cons_zero, List.set_cons_succ, List.getElem_toArray, List.getElem_cons_zero]
      refine wpAnyH_take (i := 1) (v := ?v80) rfl (by kernel_rfl) (by kernel_rfl) (by kernel_rfl) (fun _ _ _ h => h) (Or.inl ⟨by rfl, ?hy80⟩) hH ?rest80
      case hy80 => (intro w hSw; (try dsimp only at hSw); go_simp; try with_reducible rfl)
      try simp only [Act.put, List.setIfInBounds_toArray, List.set_cons_zero, List.set_cons_succ, List.getElem_toArray, List.getElem_cons_zero, List.getElem_cons_succ]
      refine wpAnyH_take (i := 2) (v := ?v81) rfl (by kernel_rfl) (by kernel_rfl) (by kernel_rfl) (fun _ _ _ h => h) (Or.inl ⟨by rfl, ?hy81⟩) hH ?rest81
      case hy81 => (intro w hSw; (try dsimp only at hSw); go_simp; try with_reducible rfl)
      try simp only [Act.put, List.setIfInBounds_toArray, List.set_cons_zero, List.set_cons_succ, List.getElem_toArray, List.getElem_cons_zero, List.getElem_cons_succ]
      refine wpAnyH_take (i := 3) (v := ?v82) rfl (by kernel_rfl) (by kernel_rfl) (by kernel_rfl) (fun _ _ _ h => h) (Or.inl ⟨by rfl, ?hy82⟩) hH ?rest82
      case hy82 => (intro w hSw; (try dsimp only at hSw); go_simp; try with_reducible rfl)
      try simp only [Act.put, List.setIfInBounds_toArray, List.set_cons_zero, List.set_cons_succ, List.getElem_toArray, List.getElem_cons_zero, List.getElem_cons_succ]
      refine wpAnyH_take (i := 4) (v := ?v83) rfl (by kernel_rfl) (by kernel_rfl) (by kernel_rfl) (fun _ _ _ h => h) (Or.inl ⟨by rfl, ?hy83⟩) hH ?rest83
      case hy83 => (intro w hSw; (try dsimp only at hSw); go_simp; try with_reducible rfl)
      try simp only [Act.put, List.setIfInBounds_toArray, List.set_cons_zero, List.set_cons_succ, List.getElem_toArray, List.getElem_cons_zero, List.getElem_cons_succ]
      refine wpAnyH_take (i := 5) (v := ?v84) rfl (by kernel_rfl) (by kernel_rfl) (by kernel_rfl) (fun _ _ _ h => h) (Or.inl ⟨by rfl, ?hy84⟩) hH ?rest84
      case hy84 => (intro w hSw; (try dsimp only at hSw); obtain ⟨xf, ⟨z0, z1, z2, z3, z4, z5, z6, z7, z8, z9, z10, z11, z12, z13⟩⟩ := SB.out w hSw; go_simp; try with_reducible rfl)
      try simp only [Act.put, List.setIfInBounds_toArray, List.set_cons_zero, List.set_cons_succ, List.getElem_toArray, List.getElem_cons_zero, List.getElem_cons_succ]
      refine wpAnyH_take (i := 6) (v := ?v85) rfl (by kernel_rfl) (by kernel_rfl) (by kernel_rfl) (fun _ _ _ h => h) (Or.inl ⟨by rfl, ?hy85⟩) hH ?rest85
      case hy85 => (intro w hSw; (try dsimp only at hSw); go_simp; try with_reducible rfl)
      try simp only [Act.put, List.setIfInBounds_toArray, List.set_cons_zero, List.set_cons_succ, List.getElem_toArray, List.getElem_cons_zero, List.getElem_cons_succ]
      refine wpAnyH_take (i := 7) (v := ?v86) rfl (by kernel_rfl) (by kernel_rfl) (by kernel_rfl) (fun _ _ _ h => h) (Or.inl ⟨by rfl, ?hy86⟩) hH ?rest86
      case hy86 => (intro w hSw; (try dsimp only at hSw); obtain ⟨xf, ⟨z0, z1, z2, z3, z4, z5, z6, z7, z8, z9, z10, z11, z12, z13⟩⟩ := SB.out w hSw; go_simp; try with_reducible rfl)
      try simp only [Act.put, List.setIfInBounds_toArray, List.set_cons_zero, List.set_cons_succ, List.getElem_toArray, List.getElem_cons_zero, List.getElem_cons_succ]
      refine wpAnyH_take (i := 8) (v := ?v87) rfl (by kernel_rfl) (by kernel_rfl) (by kernel_rfl) (fun _ _ _ h => h) (Or.inl ⟨by rfl, ?hy87⟩) hH ?rest87
      case hy87 => (intro w hSw; (try dsimp only at hSw); go_simp; try with_reducible rfl)
      try simp only [Act.put, List.setIfInBounds_toArray, List.set_cons_zero, List.set_cons_succ, List.getElem_toArray, List.getElem_cons_zero, List.getElem_cons_succ]
      refine wpAnyH_ready (rs := [9]) (by kernel_rfl) (by simp) ?_
      refine AllReadyH.cons rfl (fun K hK => ?_) AllReadyH.nil
      go_simp
      refine hK.out _ _ (hH.alloc hH.size _) (fun hH2 => ?_)
      clear hK K hH
      have hH := hH2
      clear hH2
      try simp only [Act.put, List.setIfInBounds_toArray, List.set_cons_zero, List.set_cons_succ, List.getElem_toArray, List.getElem_cons_zero, List.getElem_cons_succ]
      refine wpAnyH_ready (rs := [10]) (by kernel_rfl) (by simp) ?_
      refine AllReadyH.cons rfl (fun K hK => ?_) AllReadyH.nil
      refine step_one14 rfl (.tmp 57) (.tmp 66) rfl v0 (by rfl) (mm z L k) wb.heap.size OWN.out wr.heap.size (by rfl) (tw z x) OR.out hml.out hbs.out ?_
      intro v3 w3 hown3 hgrow3
      have hG := hH.grown hgrow3 hH.size (fun q hq => (OWN.out.lt q hq).1)
      refine hK.out _ _ hG (fun hH2 => ?_)
      clear hK K hH
      have hH := hH2
      clear hH2
      try simp only [Act.put, List.setIfInBounds_toArray, List.set_cons_zero, List.set_cons_succ, List.getElem_toArray, List.getElem_cons_zero, List.getElem_cons_succ]
      refine wpAnyH_take (i := 11) (v := ?v88) rfl (by kernel_rfl) (by kernel_rfl) (by kernel_rfl) (fun _ _ _ h => h) (Or.inl ⟨by rfl, ?hy88⟩) hH ?rest88
      case hy88 => (intro w hSw; (try dsimp only at hSw); go_simp; try with_reducible rfl)
      try simp only [Act.put, List.setIfInBounds_toArray, List.set_cons_zero, List.set_cons_succ, List.getElem_toArray, List.getElem_cons_zero, List.getElem_cons_succ]
      refine wpAnyH_done (by kernel_rfl) ?_ _
      go_wp2
      go_roundw
      case rel => exact ⟨k + 1, v3, rfl, by omega, by go_num, by rw [E9.out]; exact hown3, hH⟩
      case measure => simp [intOf]; omega
    · obtain rfl : k = L.length := by omega
      have B3 := KB.out.trans (R3.mono KB.out.size)
      have S3 := hs.to B3 B3.size
      obtain ⟨A9, c9, rfl, M3, _⟩ := own_ls own3 w.heap.size (fun x hx => by
        rcases mm_mem hx with h | ⟨h, h'⟩
        · exact (hs.below B3).of h
        · rw [h, h']; exact hz.below B3) B3.size
      clear own3 R3 KS KZ KB zl
      generalize mm z L L.length = M at *
      go_wp2_with fail
      refine (h1 wr S3).out.mono ?_
      rintro e w5 ⟨A5, c5, rfl, f5, b5⟩
      have B5 := B3.trans (b5.mono B3.size)
      have S5 := S3.to b5 b5.size
      have M5 := M3.to b5 b5.size
      clear h1 B3 S3 M3 b5
      go_wp2_with fail
      refine (h2 w5 A9 c9 M5).out.mono ?_
      rintro e w6 ⟨A6, c6, rfl, f6, b6⟩
      have B6 := B5.trans (b6.mono B5.size)
      have S6 := S5.to b6 b6.size
      have M6 := M5.to b6 b6.size
      have T6 := f5.sl.to b6 b6.size
      clear h2 B5 S5 M5 b6 f5
      go_wp2_with fail
      refine (h3 w6 A5 A6 c5 c6 T6 f6.sl).out.mono ?_
      rintro e w7 ⟨rfl, b7⟩
      have B7 := B6.trans (b7.mono B6.size)
      have S7 := S6.to b7 b7.size
      have M7 := M6.to b7 b7.size
      clear h3 B6 S6 M6 b7 f6 T6
      go_wp2_with fail
      refine (h4 w7 S7).out.mono ?_
      rintro e w8 ⟨rfl, b8⟩
      have B8 := B7.trans (b8.mono B7.size)
      have M8 := M7.to b8 b8.size
      clear h4 B7 S7 M7 b8
      go_wp2_with fail
      refine (h5 w8 A9 c9 M8).out.mono ?_
      rintro e w9 ⟨rfl, b9⟩
      have B9 := B8.trans (b9.mono B8.size)
      clear h5 B8 M8 b9
      go_wp2
      go_ret
      exact ⟨by simp, B9⟩

set_option maxHeartbeats 2000000 in
theorem more_go2 (n o : Int) (A : Option Addr) (c : Nat) (L : List Rp) (z : Rp) (w : World) (hs : Ls w w.heap.size A L) (hz : At.Sl w w.heap.size .i64 z.A z.r.xs) (hf : fw L = true) (h30 : ¬ 30 < (L.length : Int)) (h50 : ¬ 50 < (z.r.xs.length : Int)) (hz1 : 1 ≤ z.f) (hz2 : ¬ z.f ≤ 7) : Calls Try.prog 7 #[.int .i64 n, .int .i64 o, .slice A L.length c, rp z] w (UpPost w) := by
  have hz7 : ¬ (1 ≤ z.f ∧ z.f ≤ 7) := fun h => hz2 h.2
  have hk := fw_few hf
  have hfw := Few.le hk.1 hk.2
  have hfm : Few (mm z L L.length) := ⟨by have := mm_len z L L.length; omega, fun x hx => by
    rcases mm_mem hx with h | ⟨_, h⟩
    · exact hfw.2 x h
    · rw [h]; omega⟩
  have hcm := ct_more (L := L) (am_le n) hz7
  have h1 : ∀ V, Ls V V.heap.size A L → Hid (Calls Try.prog 11 #[.int .i64 n, .int .i64 o, .slice A L.length c] V (ChP V (dc o (am n) (ct L (am n))))) := fun V g => Decide_any n o A c L hfw V g
  have h2 : ∀ V A9 c9, Ls V V.heap.size A9 (mm z L L.length) → Hid (Calls Try.prog 11 #[.int .i64 n, .int .i64 o, .slice A9 (mm z L L.length).length c9] V (ChP V (dc o (am n) (ct L (am n))))) := fun V A9 c9 g => by
    have := Decide_any n o A9 c9 _ hfm V g
    rw [hcm] at this
    exact this
  have h3 : ∀ V A1 A2 c1 c2, At.Sl V V.heap.size .i64 A1 (dc o (am n) (ct L (am n))).xs → At.Sl V V.heap.size .i64 A2 (dc o (am n) (ct L (am n))).xs → Hid (Calls Try.prog 10 #[chv (dc o (am n) (ct L (am n))) A1 c1, chv (dc o (am n) (ct L (am n))) A2 c2] V (BoolPost V true)) := fun V A1 A2 c1 c2 g g' => by
    have hl := dc_len (o := o) (n := am n) hfw.2
    have := csame_any _ _ A1 A2 c1 c2 V g g' hl hl
    rw [cs_self] at this
    exact this
  have h4 : ∀ V, Ls V V.heap.size A L → Hid (Calls Try.prog 15 #[.int .i64 n, .int .i64 o, .slice A L.length c] V (BoolPost V (fs o (am n) (ct L (am n))))) := fun V g => Fast_any n o A c L hfw V g
  have h5 : ∀ V A9 c9, Ls V V.heap.size A9 (mm z L L.length) → Hid (Calls Try.prog 15 #[.int .i64 n, .int .i64 o, .slice A9 (mm z L L.length).length c9] V (BoolPost V (fs o (am n) (ct L (am n))))) := fun V A9 c9 g => by
    have := Fast_any n o A9 c9 _ hfm V g
    rw [hcm] at this
    exact this
  generalize dc o (am n) (ct L (am n)) = d at *
  generalize fs o (am n) (ct L (am n)) = ff at *
  have hl30 : L.length ≤ 30 := by omega
  clear hfw hfm hk hcm hz7
  have B0 : Below w.heap.size w (w.alloc (.cells #[.int .i64 z.f, .int .i64 z.r.st, .int .i64 z.r.pn, .int .i64 z.r.pb, .int .i64 z.r.vn, .int .i64 z.r.vb, .int .i64 z.r.u, .int .i64 z.r.s, .int .i64 z.r.k, .int .i64 z.r.h, .int .i64 z.r.n, .string z.r.t, .int .i64 z.r.q, .slice z.A z.r.xs.length z.c] 44)) := (Below.refl _ _).alloc (Nat.le_refl _) _
  have HA : Hid (Calls Try.prog 8 #[] (w.alloc (.cells #[.int .i64 z.f, .int .i64 z.r.st, .int .i64 z.r.pn, .int .i64 z.r.pb, .int .i64 z.r.vn, .int .i64 z.r.vb, .int .i64 z.r.u, .int .i64 z.r.s, .int .i64 z.r.k, .int .i64 z.r.h, .int .i64 z.r.n, .string z.r.t, .int .i64 z.r.q, .slice z.A z.r.xs.length z.c] 44)) (UpPost (w.alloc (.cells #[.int .i64 z.f, .int .i64 z.r.st, .int .i64 z.r.pn, .int .i64 z.r.pb, .int .i64 z.r.vn, .int .i64 z.r.vb, .int .i64 z.r.u, .int .i64 z.r.s, .int .i64 z.r.k, .int .i64 z.r.h, .int .i64 z.r.n, .string z.r.t, .int .i64 z.r.q, .slice z.A z.r.xs.length z.c] 44)))) := awake_any _
  have HF : ∀ V, Ls V V.heap.size A L → Hid (Calls Try.prog 9 #[.slice A L.length c] V (BoolPost V (fw L))) := fun V g => few_any A c L V g
  have Z0 : Rq (w.alloc (.cells #[.int .i64 z.f, .int .i64 z.r.st, .int .i64 z.r.pn, .int .i64 z.r.pb, .int .i64 z.r.vn, .int .i64 z.r.vb, .int .i64 z.r.u, .int .i64 z.r.s, .int .i64 z.r.k, .int .i64 z.r.h, .int .i64 z.r.n, .string z.r.t, .int .i64 z.r.q, .slice z.A z.r.xs.length z.c] 44)) w.heap.size 0 z := by
    refine ⟨?_, ?_, ?_, ?_, ?_, ?_, ?_, ?_, ?_, ?_, ?_, ?_, ?_, ?_⟩ <;> simp
  have zl : w.heap.size < (w.alloc (.cells #[.int .i64 z.f, .int .i64 z.r.st, .int .i64 z.r.pn, .int .i64 z.r.pb, .int .i64 z.r.vn, .int .i64 z.r.vb, .int .i64 z.r.u, .int .i64 z.r.s, .int .i64 z.r.k, .int .i64 z.r.h, .int .i64 z.r.n, .string z.r.t, .int .i64 z.r.q, .slice z.A z.r.xs.length z.c] 44)).heap.size := by simp
  have sb : (w.alloc (.cells #[.int .i64 z.f, .int .i64 z.r.st, .int .i64 z.r.pn, .int .i64 z.r.pb, .int .i64 z.r.vn, .int .i64 z.r.vb, .int .i64 z.r.u, .int .i64 z.r.s, .int .i64 z.r.k, .int .i64 z.r.h, .int .i64 z.r.n, .string z.r.t, .int .i64 z.r.q, .slice z.A z.r.xs.length z.c] 44)).heap.size = w.heap.size + 1 := by simp
  rw [hf] at HF
  clear hf
  go_enter Try.func7, Try.ntmps7
  go_wp2_with fail
  generalize w.alloc (.cells #[.int .i64 z.f, .int .i64 z.r.st, .int .i64 z.r.pn, .int .i64 z.r.pb, .int .i64 z.r.vn, .int .i64 z.r.vb, .int .i64 z.r.u, .int .i64 z.r.s, .int .i64 z.r.k, .int .i64 z.r.h, .int .i64 z.r.n, .string z.r.t, .int .i64 z.r.q, .slice z.A z.r.xs.length z.c] 44) = wb at *
  refine HA.out.mono ?_
  rintro e w1 ⟨rfl, b1⟩
  have S1 := hs.to (B0.trans (b1.mono B0.size)) (B0.trans (b1.mono B0.size)).size
  clear HA
  go_wp2_with fail
  refine (HF w1 S1).out.mono ?_
  rintro e w2 ⟨rfl, b2⟩
  have R2 := b1.trans (b2.mono b1.size)
  have B2 := B0.trans (R2.mono B0.size)
  have Z2 := Z0.on R2 zl
  clear HF S1 b1 b2
  obtain ⟨z0, z1, z2, z3, z4, z5, z6, z7, z8, z9, z10, z11, z12, z13⟩ := id Z2
  have S2 := hs.to B2 B2.size
  have KS := Lib.hid (hs.below B0)
  have KZ := Lib.hid Z0
  have KB := Lib.hid B0
  have own0 : (w2.alloc (.cells #[.int .i64 z.f, .int .i64 z.r.st, .int .i64 z.r.pn, .int .i64 z.r.pb, .int .i64 z.r.vn, .int .i64 z.r.vb, .int .i64 z.r.u, .int .i64 z.r.s, .int .i64 z.r.k, .int .i64 z.r.h, .int .i64 z.r.n, .string z.r.t, .int .i64 z.r.q, .slice z.A z.r.xs.length z.c] 44)).ownsRow wb.heap.size 44 14 (.slice (some ⟨w2.heap.size, 0, none⟩) 1 1) [z].length (rls [z]) := World.ownsRow_lit w2 #[.int .i64 z.f, .int .i64 z.r.st, .int .i64 z.r.pn, .int .i64 z.r.pb, .int .i64 z.r.vn, .int .i64 z.r.vb, .int .i64 z.r.u, .int .i64 z.r.s, .int .i64 z.r.k, .int .i64 z.r.h, .int .i64 z.r.n, .string z.r.t, .int .i64 z.r.q, .slice z.A z.r.xs.length z.c] 1 R2.size (by unfold maxLen; omega) rfl
  have a2 : Below w2.heap.size w2 (w2.alloc (.cells #[.int .i64 z.f, .int .i64 z.r.st, .int .i64 z.r.pn, .int .i64 z.r.pb, .int .i64 z.r.vn, .int .i64 z.r.vb, .int .i64 z.r.u, .int .i64 z.r.s, .int .i64 z.r.k, .int .i64 z.r.h, .int .i64 z.r.n, .string z.r.t, .int .i64 z.r.q, .slice z.A z.r.xs.length z.c] 44)) := (Below.refl _ _).alloc (Nat.le_refl _) _
  have R3 := R2.trans (a2.mono R2.size)
  have S3 := S2.below a2
  have l2 := R2.size
  clear Z0 Z2 B0 B2 S2
  go_wp2_with (at_builtin; refine wpList_app14 rfl (.tmp 48) (.tmp 49) rfl wb.heap.size _ [z] rfl own0 w2.heap.size A c L rfl S3 (by simp; omega) R3.size ?_; intro v4 w4 own4 grow4)
  have R4 := R3.grown grow4 R3.size (fun q hq => (own0.lt q hq).1)
  have own5 : w4.ownsRow wb.heap.size 44 14 v4 (mm z L 0).length (rls (mm z L 0)) := by
    have e : mm z L 0 = [z] ++ L := by simp [mm]
    rw [e]
    exact own4
  clear own0 own4 R3 R2 S3 a2 grow4 z0 z1 z2 z3 z4 z5 z6 z7 z8 z9 z10 z11 z12 z13
  go_loopw [11, 12] (fun v t wr => ∃ (k : Nat) (v0 : Value), v0 = v ∧ k ≤ L.length ∧ t = .int .i64 (k : Int) ∧ wr.ownsRow wb.heap.size 44 14 v0 (mm z L k).length (rls (mm z L k)) ∧ Below wb.heap.size wb wr) (fun _ t _ => 101 - (intOf t).toNat)
  case atStart => exact ⟨0, _, rfl, Nat.zero_le _, rfl, own5, R4⟩
  case round =>
    obtain ⟨k, v0, rfl, hk, rfl, own3, R3⟩ := hrel
    clear own5 R4
    by_cases hil : k < L.length
    · have hili : (k : Int) < (L.length : Int) := by omega
      have hil0 : (0 : Int) ≤ (k : Int) := by omega
      have E9 := Lib.hid (mm_succ (z := z) hil)
      have hml : Hid ((mm z L k).length ≤ 900) := Lib.hid (by have := mm_len z L k; omega)
      obtain ⟨b, off, hA, hbB, hq, _⟩ := KS.out.at_ hil
      generalize L[k] = x at *
      subst hA
      have hbw : b < wb.heap.size := by omega
      have hqr := hq.on R3 hbw
      obtain ⟨q0, q1, q2, q3, q4, q5, q6, q7, q8, q9, q10, q11, q12, q13⟩ := id hqr
      have OWN : Hid ((wr.drew.alloc (.cells #[.int .i64 x.f, .int .i64 z.r.st, .int .i64 z.r.pn, .int .i64 z.r.pb, .int .i64 z.r.vn, .int .i64 z.r.vb, .int .i64 z.r.u, .int .i64 z.r.s, .int .i64 z.r.k, .int .i64 z.r.h, .int .i64 z.r.n, .string z.r.t, .int .i64 z.r.q, .slice z.A z.r.xs.length z.c] 44)).ownsRow wb.heap.size 44 14 v0 (mm z L k).length (rls (mm z L k))) := Lib.hid ((own_below own3 (Below.refl _ _).drew).alloc _)
      have OR : Hid (Ls (wr.drew.alloc (.cells #[.int .i64 x.f, .int .i64 z.r.st, .int .i64 z.r.pn, .int .i64 z.r.pb, .int .i64 z.r.vn, .int .i64 z.r.vb, .int .i64 z.r.u, .int .i64 z.r.s, .int .i64 z.r.k, .int .i64 z.r.h, .int .i64 z.r.n, .string z.r.t, .int .i64 z.r.q, .slice z.A z.r.xs.length z.c] 44)) (wr.heap.size + 1) (some ⟨wr.heap.size, 0, none⟩) [tw z x]) := Lib.hid (one_rep wr.drew (tw z x) wr.heap.size ((hz.to (KB.out.trans (R3.drew.mono KB.out.size)) (KB.out.trans (R3.drew.mono KB.out.size)).size)) (Nat.le_refl _))
      have hbs : Hid (wb.heap.size ≤ (wr.drew.alloc (.cells #[.int .i64 x.f, .int .i64 z.r.st, .int .i64 z.r.pn, .int .i64 z.r.pb, .int .i64 z.r.vn, .int .i64 z.r.vb, .int .i64 z.r.u, .int .i64 z.r.s, .int .i64 z.r.k, .int .i64 z.r.h, .int .i64 z.r.n, .string z.r.t, .int .i64 z.r.q, .slice z.A z.r.xs.length z.c] 44)).heap.size) := Lib.hid (Nat.le_trans R3.size (by simp))
      have SB : Hid (∀ v, Below wb.heap.size wb v → v.cell? ⟨b, off + k * 14, none⟩ = some (.int .i64 x.f) ∧ Rq v w.heap.size 0 z) := Lib.hid (fun v g => ⟨(hq.on g hbw).1, KZ.out.on g zl⟩)
      have BD : Hid (Below wb.heap.size wb wr.drew) := R3.drew
      clear own3 R3 hq hqr q1 q2 q3 q4 q5 q6 q7 q8 q9 q10 q11 q12 q13
      go_wp2
      refine wp_region_held_drew (S := fun v => Below wb.heap.size wb v) (by kernel_rfl) BD.out (fun hH => ?_)
      refine wpAnyH_take (i := 0) (v := ?v79) rfl (by kernel_rfl) (by kernel_rfl) (by kernel_rfl) (fun _ _ _ h => h) (Or.inl ⟨by rfl, ?hy79⟩) hH ?rest79
      case hy79 => (intro w hSw; (try dsimp only at hSw); go_simp; try with_reducible rfl)
      try simp only [Act.put, List.setIfInBounds_toArray, List.set_cons_zero, List.set_cons_succ, List.getElem_toArray, List.getElem_cons_zero]
      refine wpAnyH_take (i := 1) (v := ?v80) rfl (by kernel_rfl) (by kernel_rfl) (by kernel_rfl) (fun _ _ _ h => h) (Or.inl ⟨by rfl, ?hy80⟩) hH ?rest80
      case hy80 => (intro w hSw; (try dsimp only at hSw); go_simp; try with_reducible rfl)
      try simp only [Act.put, List.setIfInBounds_toArray, List.set_cons_zero, List.set_cons_succ, List.getElem_toArray, List.getElem_cons_zero, List.getElem_cons_succ]
      refine wpAnyH_take (i := 2) (v := ?v81) rfl (by kernel_rfl) (by kernel_rfl) (by kernel_rfl) (fun _ _ _ h => h) (Or.inl ⟨by rfl, ?hy81⟩) hH ?rest81
      case hy81 => (intro w hSw; (try dsimp only at hSw); go_simp; try with_reducible rfl)
      try simp only [Act.put, List.setIfInBounds_toArray, List.set_cons_zero, List.set_cons_succ, List.getElem_toArray, List.getElem_cons_zero, List.getElem_cons_succ]
      refine wpAnyH_take (i := 3) (v := ?v82) rfl (by kernel_rfl) (by kernel_rfl) (by kernel_rfl) (fun _ _ _ h => h) (Or.inl ⟨by rfl, ?hy82⟩) hH ?rest82
      case hy82 => (intro w hSw; (try dsimp only at hSw); go_simp; try with_reducible rfl)
      try simp only [Act.put, List.setIfInBounds_toArray, List.set_cons_zero, List.set_cons_succ, List.getElem_toArray, List.getElem_cons_zero, List.getElem_cons_succ]
      refine wpAnyH_take (i := 4) (v := ?v83) rfl (by kernel_rfl) (by kernel_rfl) (by kernel_rfl) (fun _ _ _ h => h) (Or.inl ⟨by rfl, ?hy83⟩) hH ?rest83
      case hy83 => (intro w hSw; (try dsimp only at hSw); go_simp; try with_reducible rfl)
      try simp only [Act.put, List.setIfInBounds_toArray, List.set_cons_zero, List.set_cons_succ, List.getElem_toArray, List.getElem_cons_zero, List.getElem_cons_succ]
      refine wpAnyH_take (i := 5) (v := ?v84) rfl (by kernel_rfl) (by kernel_rfl) (by kernel_rfl) (fun _ _ _ h => h) (Or.inl ⟨by rfl, ?hy84⟩) hH ?rest84
      case hy84 => (intro w hSw; (try dsimp only at hSw); obtain ⟨xf, ⟨z0, z1, z2, z3, z4, z5, z6, z7, z8, z9, z10, z11, z12, z13⟩⟩ := SB.out w hSw; go_simp; try with_reducible rfl)
      try simp only [Act.put, List.setIfInBounds_toArray, List.set_cons_zero, List.set_cons_succ, List.getElem_toArray, List.getElem_cons_zero, List.getElem_cons_succ]
      refine wpAnyH_take (i := 6) (v := ?v85) rfl (by kernel_rfl) (by kernel_rfl) (by kernel_rfl) (fun _ _ _ h => h) (Or.inl ⟨by rfl, ?hy85⟩) hH ?rest85
      case hy85 => (intro w hSw; (try dsimp only at hSw); go_simp; try with_reducible rfl)
      try simp only [Act.put, List.setIfInBounds_toArray, List.set_cons_zero, List.set_cons_succ, List.getElem_toArray, List.getElem_cons_zero, List.getElem_cons_succ]
      refine wpAnyH_take (i := 7) (v := ?v86) rfl (by kernel_rfl) (by kernel_rfl) (by kernel_rfl) (fun _ _ _ h => h) (Or.inl ⟨by rfl, ?hy86⟩) hH ?rest86
      case hy86 => (intro w hSw; (try dsimp only at hSw); obtain ⟨xf, ⟨z0, z1, z2, z3, z4, z5, z6, z7, z8, z9, z10, z11, z12, z13⟩⟩ := SB.out w hSw; go_simp; try with_reducible rfl)
      try simp only [Act.put, List.setIfInBounds_toArray, List.set_cons_zero, List.set_cons_succ, List.getElem_toArray, List.getElem_cons_zero, List.getElem_cons_succ]
      refine wpAnyH_take (i := 8) (v := ?v87) rfl (by kernel_rfl) (by kernel_rfl) (by kernel_rfl) (fun _ _ _ h => h) (Or.inl ⟨by rfl, ?hy87⟩) hH ?rest87
      case hy87 => (intro w hSw; (try dsimp only at hSw); go_simp; try with_reducible rfl)
      try simp only [Act.put, List.setIfInBounds_toArray, List.set_cons_zero, List.set_cons_succ, List.getElem_toArray, List.getElem_cons_zero, List.getElem_cons_succ]
      refine wpAnyH_ready (rs := [9]) (by kernel_rfl) (by simp) ?_
      refine AllReadyH.cons rfl (fun K hK => ?_) AllReadyH.nil
      go_simp
      refine hK.out _ _ (hH.alloc hH.size _) (fun hH2 => ?_)
      clear hK K hH
      have hH := hH2
      clear hH2
      try simp only [Act.put, List.setIfInBounds_toArray, List.set_cons_zero, List.set_cons_succ, List.getElem_toArray, List.getElem_cons_zero, List.getElem_cons_succ]
      refine wpAnyH_ready (rs := [10]) (by kernel_rfl) (by simp) ?_
      refine AllReadyH.cons rfl (fun K hK => ?_) AllReadyH.nil
      refine step_one14 rfl (.tmp 57) (.tmp 66) rfl v0 (by rfl) (mm z L k) wb.heap.size OWN.out wr.heap.size (by rfl) (tw z x) OR.out hml.out hbs.out ?_
      intro v3 w3 hown3 hgrow3
      have hG := hH.grown hgrow3 hH.size (fun q hq => (OWN.out.lt q hq).1)
      refine hK.out _ _ hG (fun hH2 => ?_)
      clear hK K hH
      have hH := hH2
      clear hH2
      try simp only [Act.put, List.setIfInBounds_toArray, List.set_cons_zero, List.set_cons_succ, List.getElem_toArray, List.getElem_cons_zero, List.getElem_cons_succ]
      refine wpAnyH_take (i := 11) (v := ?v88) rfl (by kernel_rfl) (by kernel_rfl) (by kernel_rfl) (fun _ _ _ h => h) (Or.inl ⟨by rfl, ?hy88⟩) hH ?rest88
      case hy88 => (intro w hSw; (try dsimp only at hSw); go_simp; try with_reducible rfl)
      try simp only [Act.put, List.setIfInBounds_toArray, List.set_cons_zero, List.set_cons_succ, List.getElem_toArray, List.getElem_cons_zero, List.getElem_cons_succ]
      refine wpAnyH_done (by kernel_rfl) ?_ _
      go_wp2
      go_roundw
      case rel => exact ⟨k + 1, v3, rfl, by omega, by go_num, by rw [E9.out]; exact hown3, hH⟩
      case measure => simp [intOf]; omega
    · obtain rfl : k = L.length := by omega
      have B3 := KB.out.trans (R3.mono KB.out.size)
      have S3 := hs.to B3 B3.size
      obtain ⟨A9, c9, rfl, M3, _⟩ := own_ls own3 w.heap.size (fun x hx => by
        rcases mm_mem hx with h | ⟨h, h'⟩
        · exact (hs.below B3).of h
        · rw [h, h']; exact hz.below B3) B3.size
      clear own3 R3 KS KZ KB zl
      generalize mm z L L.length = M at *
      go_wp2_with fail
      refine (h1 wr S3).out.mono ?_
      rintro e w5 ⟨A5, c5, rfl, f5, b5⟩
      have B5 := B3.trans (b5.mono B3.size)
      have S5 := S3.to b5 b5.size
      have M5 := M3.to b5 b5.size
      clear h1 B3 S3 M3 b5
      go_wp2_with fail
      refine (h2 w5 A9 c9 M5).out.mono ?_
      rintro e w6 ⟨A6, c6, rfl, f6, b6⟩
      have B6 := B5.trans (b6.mono B5.size)
      have S6 := S5.to b6 b6.size
      have M6 := M5.to b6 b6.size
      have T6 := f5.sl.to b6 b6.size
      clear h2 B5 S5 M5 b6 f5
      go_wp2_with fail
      refine (h3 w6 A5 A6 c5 c6 T6 f6.sl).out.mono ?_
      rintro e w7 ⟨rfl, b7⟩
      have B7 := B6.trans (b7.mono B6.size)
      have S7 := S6.to b7 b7.size
      have M7 := M6.to b7 b7.size
      clear h3 B6 S6 M6 b7 f6 T6
      go_wp2_with fail
      refine (h4 w7 S7).out.mono ?_
      rintro e w8 ⟨rfl, b8⟩
      have B8 := B7.trans (b8.mono B7.size)
      have M8 := M7.to b8 b8.size
      clear h4 B7 S7 M7 b8
      go_wp2_with fail
      refine (h5 w8 A9 c9 M8).out.mono ?_
      rintro e w9 ⟨rfl, b9⟩
      have B9 := B8.trans (b9.mono B8.size)
      clear h5 B8 M8 b9
      go_wp2
      go_ret
      exact ⟨by simp, B9⟩

theorem lmore_any (n o : Int) (A : Option Addr) (c : Nat) (L : List Rp) (z : Rp) (w : World) (hs : Ls w w.heap.size A L) (hz : At.Sl w w.heap.size .i64 z.A z.r.xs) : Calls Try.prog 7 #[.int .i64 n, .int .i64 o, .slice A L.length c, rp z] w (UpPost w) := by
  rcases hf : fw L with _ | _
  · exact more_a n o A c L z w hs hz hf
  by_cases h30 : 30 < (L.length : Int)
  · exact more_b n o A c L z w hs hz hf h30
  by_cases h50 : 50 < (z.r.xs.length : Int)
  · exact more_c n o A c L z w hs hz hf h30 h50
  by_cases h1 : 1 ≤ z.f
  · by_cases h7 : z.f ≤ 7
    · exact more_d n o A c L z w hs hz hf h30 h50 h1 h7
    · exact more_go2 n o A c L z w hs hz hf h30 h50 h1 h7
  · exact more_go1 n o A c L z w hs hz hf h30 h50 h1

end Go.Proofs.Ytgmfjoegfbaebaa.Rg
