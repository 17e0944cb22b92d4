/-
  Words for memory that the walks of sorted numbers use: a slice of numbers that reads as a list, a row of the call's own, 's[k:]', 's[:k]', append. No program's function is walked here. No conditions beyond sizes.
-/
import Derived.Test.YtjcmlelfmnonkaaAwk
import Derived.WalkSpells
import Derived.ProofKit
import Derived.Laws.MakeOwn
import Derived.Laws.CopyOwn
namespace Go.Proofs.Ytjcmlelfmnonkaa
open Go.RowKit
set_option linter.unusedVariables false

/-- The slice at the address A reads as the integers xs, all of which lie below block B. -/
def Sl (w : World) (B : Nat) (k : IntKind) (A : Option Addr) (xs : List Int) : Prop :=
  xs = [] ∨ ∃ b off, A = some ⟨b, off, none⟩ ∧ b < B ∧ ∀ j x, xs[j]? = some x → w.cell? ⟨b, off + j, none⟩ = some (.int k x)

theorem Sl.nil {w : World} {B : Nat} {k : IntKind} {A : Option Addr} : Sl w B k A [] := .inl rfl

theorem Sl.at_ {w : World} {B : Nat} {k : IntKind} {A : Option Addr} {xs : List Int} (h : Sl w B k A xs) {j : Nat} (hj : j < xs.length) :
    ∃ b off, A = some ⟨b, off, none⟩ ∧ b < B ∧ w.cell? ⟨b, off + j, none⟩ = some (.int k (xs.getD j 0)) := by
  rcases h with rfl | ⟨b, off, hA, hb, hc⟩
  · simp at hj
  · exact ⟨b, off, hA, hb, by simpa [List.getD, List.getElem?_eq_getElem hj] using hc j xs[j] (List.getElem?_eq_getElem hj)⟩

theorem Sl.below {w w' : World} {B : Nat} {k : IntKind} {A : Option Addr} {xs : List Int} (h : Sl w B k A xs) (hb : Below B w w') : Sl w' B k A xs := by
  rcases h with rfl | ⟨b, off, hA, hlt, hc⟩
  · exact .inl rfl
  · exact .inr ⟨b, off, hA, hlt, fun j x hx => (hb.cell (p := ⟨b, off + j, none⟩) hlt).trans (hc j x hx)⟩

theorem Sl.mono {w : World} {B B' : Nat} {k : IntKind} {A : Option Addr} {xs : List Int} (h : Sl w B k A xs) (hB : B ≤ B') : Sl w B' k A xs := by
  rcases h with rfl | ⟨b, off, hA, hlt, hc⟩
  · exact .inl rfl
  · exact .inr ⟨b, off, hA, by omega, hc⟩

theorem Sl.take {w : World} {B : Nat} {k : IntKind} {A : Option Addr} {xs : List Int} (h : Sl w B k A xs) (n : Nat) : Sl w B k A (xs.take n) := by
  rcases h with rfl | ⟨b, off, hA, hlt, hc⟩
  · exact .inl (by simp)
  · exact .inr ⟨b, off, hA, hlt, fun j x hx => hc j x (by rw [List.getElem?_take] at hx; split at hx <;> simp_all)⟩

theorem Sl.drop {w : World} {B b off : Nat} {k : IntKind} {xs : List Int} (h : Sl w B k (some ⟨b, off, none⟩) xs) (n : Nat) : Sl w B k (some ⟨b, off + n, none⟩) (xs.drop n) := by
  rcases h with rfl | ⟨b', off', hA, hlt, hc⟩
  · exact .inl (by simp)
  · obtain ⟨rfl, rfl⟩ : b = b' ∧ off = off' := by simpa using hA
    exact .inr ⟨b, off + n, rfl, hlt, fun j x hx => by rw [Nat.add_assoc]; exact hc (n + j) x (by rw [List.getElem?_drop] at hx; exact hx)⟩

/-- A row of the call's own is a slice that reads as its list. -/
theorem own_slice {w : World} {base : Nat} {e : TypeId} {k : IntKind} {v : Value} {xs : List Int} (h : w.ownsRow base e 1 v xs.length (xs.map (Value.int k))) :
    ∃ A c, v = .slice A xs.length c ∧ Sl w w.heap.size k A xs ∧ xs.length ≤ c := by
  rcases h.2 with ⟨rfl, h0⟩ | ⟨g, cap, cur, rfl, hg, hh, hnc, hcp, hcs, htake⟩
  · exact ⟨none, 0, by rw [h0], .inl (List.length_eq_zero_iff.1 h0), by omega⟩
  · refine ⟨_, cap, rfl, .inr ⟨g, 0, rfl, lt_of_block hh, fun j x hx => ?_⟩, hnc⟩
    have hj : j < xs.length := (List.getElem?_eq_some_iff.1 hx).1
    rw [Nat.zero_add, h.cellAt j (by omega)]
    simp [hx]

/-- A slice that came in, as the shell tells it, reads as its first elements. -/
theorem sl_of_cells {k : IntKind} {w : World} {x : Addr} {len cap : Nat} {zs : List Int} (hl : len ≤ cap) (hz : zs.length = cap)
    (hcell : ∀ i, i < zs.length → w.cell? (x.add i) = some (.int k (zs.getD i 0))) : Sl w w.heap.size k (some x) (zs.take len) := by
  rcases Nat.eq_zero_or_pos len with rfl | hp
  · exact .inl (by simp)
  · obtain ⟨b, off, sp⟩ := x
    have hc := hcell 0 (by omega)
    have hsp : sp = none := by simpa [Addr.add] using World.cell?_spot hc
    subst hsp
    have hc0 : w.cell? ⟨b, off, none⟩ = some (.int k (zs.getD 0 0)) := by simpa [Addr.add] using hc
    refine .inr ⟨b, off, rfl, World.block_lt_of_cell? w _ hc0, fun j x hx => ?_⟩
    rw [List.getElem?_take] at hx
    split at hx
    · have hj : j < zs.length := (List.getElem?_eq_some_iff.1 hx).1
      have := hcell j hj
      rw [Addr.add_lit] at this
      rw [this]
      simp [List.getD, hx]
    · cases hx

theorem ints_one (k : IntKind) (xs : List Int) : ∀ u ∈ xs.map (Value.int k), u.oneCell' = true := by
  intro u hu
  obtain ⟨n, _, rfl⟩ := List.mem_map.1 hu
  rfl

theorem run_app {P : Program} (w : World) (base : Nat) (t ty e : TypeId) (i : TypeInfo) (z : Value) (bytes : Nat) (ht : P.underlying t = some (.slice e)) (hi : P.info? e = some i) (hz : i.zero = some z)
    (hsize : i.size = 1) (hby : i.bytes = bytes) (hzs : z.cells.size = 1) (v : Value) (n : Nat) (xs : List Value) (hown : w.ownsRow base e 1 v n xs)
    (B : Nat) (k : IntKind) (A : Option Addr) (c : Nat) (news : List Int) (hs : Sl w B k A news) (h63 : n + news.length ≤ maxLen) (hbytes : (n + news.length) * bytes ≤ 140737488355328) (hbase : base ≤ w.heap.size) :
    ∃ v' w', (Builtin.append_ #[t, t] ty #[v, .slice A news.length c]).run P w = .ok v' w' ∧ w'.ownsRow base e 1 v' (n + news.length) (xs ++ news.map (Value.int k)) ∧ w.grownBy w' v.ownBlock := by
  rcases A with _ | ad
  · have hn : news = [] := by
      rcases hs with h | ⟨b, off, h, _⟩
      · exact h
      · cases h
    subst hn
    refine ⟨v, w, ?_, by simpa using hown, World.grownBy.refl w _⟩
    rcases hown.2 with ⟨rfl, rfl⟩ | ⟨g, cap, cur, rfl, _, _, hnc, _⟩
    · simp [Builtin.append_, run_underlying ht, sizeOf, typeInfo, hi, Builtin.lenOf, Builtin.firstCells]
    · simp [Builtin.append_, run_underlying ht, sizeOf, typeInfo, hi, Builtin.lenOf, Builtin.firstCells, hnc, storeCells]
  · obtain ⟨v', w', h1, h2, h3, _⟩ := run_append_own (P := P) w base t ty e i z 1 bytes ht hi hz hsize hby hzs (by decide) v n xs hown ad news.length c (news.map (Value.int k)) (by simp)
      (fun j u hu => by
        rcases hs with rfl | ⟨b, off, h, _, hc⟩
        · simp at hu
        · cases h
          rw [List.getElem?_map] at hu
          obtain ⟨x, hx, rfl⟩ := Option.map_eq_some_iff.1 hu
          rw [Addr.add_lit]
          exact hc j x hx) (ints_one k news) h63 hbytes hbase
    exact ⟨v', w', h1, h2, h3⟩

theorem wpList_app {P : Program} {w : World} {ops : Array Oper} {rest : List Oper} {o : Oper} {a : Act} {Q : Exit → Act → World → Prop} (hgd : o.guard = none) (s x : Operand) (t : TypeId)
    (ho : o.op = .call { callee := .builtin .append, args := #[s, x], argTypes := #[t, t] })
    (base : Nat) (e : TypeId) (i : TypeInfo) (z : Value) (bytes : Nat) (ht : P.underlying t = some (.slice e)) (hi : P.info? e = some i) (hz : i.zero = some z)
    (hsize : i.size = 1) (hby : i.bytes = bytes) (hzs : z.cells.size = 1) (v : Value) (n : Nat) (xs : List Value) (hv : a.eval s = v) (hown : w.ownsRow base e 1 v n xs)
    (B : Nat) (k : IntKind) (A : Option Addr) (c : Nat) (news : List Int) (hx : a.eval x = .slice A news.length c) (hs : Sl w B k A news) (h63 : n + news.length ≤ maxLen) (hbytes : (n + news.length) * bytes ≤ 140737488355328) (hbase : base ≤ w.heap.size)
    (h : ∀ v' w', w'.ownsRow base e 1 v' (n + news.length) (xs ++ news.map (Value.int k)) → w.grownBy w' v.ownBlock → wpList P ops Q rest (a.put o.dst v') w') : wpList P ops Q (o :: rest) a w := by
  obtain ⟨v', w', hr, h2, h3⟩ := run_app (P := P) w base t o.type e i z bytes ht hi hz hsize hby hzs v n xs hown B k A c news hs h63 hbytes hbase
  refine wpList_plain hgd fun K hK => ?_
  unfold Oper.wp execOp
  simp only [ho, resolve, invoke, builtin, Sem.run_bind, Sem.run_pure, Result.andThen_ok, List.map_toArray, List.map_cons, List.map_nil, hv, hx, hr]
  exact hK _ _ (h v' w' h2 h3)

/-- What 's[k:]' is: one slice, whatever the capacity, that reads as what stands behind the first k. -/
theorem tail_run {w : World} {B : Nat} {A : Option Addr} {xs : List Int} (h : Sl w B .u64 A xs) (c k : Nat) (l : Int) (hl : l = (k : Int)) (hk : k ≤ xs.length) (_hc : xs.length ≤ c) :
    ∃ A', (∀ W, (Instr.sliceAt 27 (.slice A xs.length c) (some (.int .i64 l)) none none).run Try.prog W = .ok (.slice A' (xs.length - k) (c - k)) W) ∧
      (∀ W, (Instr.slice 27 (.slice A xs.length c) (some (.int .i64 l)) none none).run Try.prog W = .ok (.slice A' (xs.length - k) (c - k)) W) ∧ Sl w B .u64 A' (xs.drop k) := by
  subst hl
  have hsz : ∀ W, (sizeOf (Try.prog.elem 27)).run Try.prog W = .ok 1 W := fun W => by
    have : Try.prog.elem 27 = 23 := by kernel_rfl
    rw [this]
    simp [go_sem]
  have hu : Try.prog.underlying 27 = some (.slice (Try.prog.elem 27)) := by kernel_rfl
  have h2 : ∀ W, (Instr.slice 27 (.slice A xs.length c) (some (.int .i64 (k : Int))) none none).run Try.prog W = .ok (.slice (if c = k then A else A.map (·.add (k * 1))) (xs.length - k) (c - k)) W := fun W => by
    rw [run_slice_l W 27 A xs.length c hu .i64 k (by omega) (by omega), hsz]
    simp [sliced]
  refine ⟨if c = k then A else A.map (·.add (k * 1)), fun W => by rw [run_sliceAt_slice W 27 _ _ _ _ hu]; exact h2 W, h2, ?_⟩
  by_cases hck : c = k
  · rw [List.drop_of_length_le (by omega)]; exact Sl.nil
  · rw [if_neg hck]
    rcases h with rfl | ⟨b, off, rfl, hb, hcell⟩
    · simp; exact Sl.nil
    · have : Sl w B .u64 (some ⟨b, off, none⟩) xs := .inr ⟨b, off, rfl, hb, hcell⟩
      simp only [Option.map_some, Nat.mul_one, Addr.add_lit]
      exact this.drop k

theorem elem_size (W : World) : (sizeOf (Try.prog.elem 27)).run Try.prog W = .ok 1 W := by
  have : Try.prog.elem 27 = 23 := by kernel_rfl
  rw [this]
  simp [go_sem]
theorem elem_under : Try.prog.underlying 27 = some (.slice (Try.prog.elem 27)) := by kernel_rfl

theorem Sl.at_add {w : World} {B : Nat} {A : Option Addr} {xs : List Int} (h : Sl w B .u64 A xs) (c k : Nat) (hk : k ≤ xs.length) (hc : xs.length ≤ c) : Sl w B .u64 (if c = k then A else A.map (·.add (k * 1))) (xs.drop k) := by
  by_cases hck : c = k
  · rw [List.drop_of_length_le (by omega)]; exact Sl.nil
  · rw [if_neg hck]
    rcases h with rfl | ⟨b, off, rfl, hb, hcell⟩
    · simp; exact Sl.nil
    · have : Sl w B .u64 (some ⟨b, off, none⟩) xs := .inr ⟨b, off, rfl, hb, hcell⟩
      simp only [Option.map_some, Nat.mul_one, Addr.add_lit]
      exact this.drop k

/-- What 's[:k]' is. -/
theorem head_run {w : World} {B : Nat} {A : Option Addr} {xs : List Int} (h : Sl w B .u64 A xs) (c k : Nat) (l : Int) (hl : l = (k : Int)) (hk : k ≤ xs.length) (hc : xs.length ≤ c) :
    ∃ A', (∀ W, (Instr.sliceAt 27 (.slice A xs.length c) none (some (.int .i64 l)) none).run Try.prog W = .ok (.slice A' k c) W) ∧
      (∀ W, (Instr.slice 27 (.slice A xs.length c) none (some (.int .i64 l)) none).run Try.prog W = .ok (.slice A' k c) W) ∧ Sl w B .u64 A' (xs.take k) := by
  subst hl
  have h2 : ∀ W, (Instr.slice 27 (.slice A xs.length c) none (some (.int .i64 (k : Int))) none).run Try.prog W = .ok (.slice (if c = 0 then A else A.map (·.add (0 * 1))) k c) W := fun W => by
    rw [run_slice_h W 27 A xs.length c elem_under .i64 k (by omega) (by omega), elem_size]
    simp [sliced]
  refine ⟨if c = 0 then A else A.map (·.add (0 * 1)), fun W => by rw [run_sliceAt_slice W 27 _ _ _ _ elem_under]; exact h2 W, h2, ?_⟩
  have := (h.at_add c 0 (Nat.zero_le _) hc)
  rw [List.drop_zero] at this
  exact this.take k


theorem info23 : ∃ i : TypeInfo, Try.prog.info? 23 = some i ∧ i.zero = some (.int .u64 0) ∧ i.size = 1 ∧ i.bytes = 8 := by
  cases h : Try.prog.info? 23 with
  | none => exact absurd h (by have : (Try.prog.info? 23).isSome = true := by kernel_rfl
                               intro e; rw [e] at this; cases this)
  | some i =>
    have h1 : (Try.prog.info? 23).bind (·.zero) = some (.int .u64 0) := by kernel_rfl
    have h2 : (Try.prog.info? 23).map (·.size) = some 1 := by kernel_rfl
    have h3 : (Try.prog.info? 23).map (·.bytes) = some 8 := by kernel_rfl
    rw [h] at h1 h2 h3
    exact ⟨i, rfl, h1, by simpa using h2, by simpa using h3⟩
/-- Numbers as a slice holds them. -/
def zs (l : List Nat) : List Int := l.map (fun x : Nat => (x : Int))
theorem zs_len (l : List Nat) : (zs l).length = l.length := by simp [zs]
theorem zs_append (l m : List Nat) : zs (l ++ m) = zs l ++ zs m := by simp [zs]
theorem zs_take (l : List Nat) (k : Nat) : (zs l).take k = zs (l.take k) := by simp [zs]
theorem zs_drop (l : List Nat) (k : Nat) : (zs l).drop k = zs (l.drop k) := by simp [zs]
theorem zs_get {l : List Nat} {j : Nat} (hj : j < l.length) : (zs l).getD j 0 = (l[j] : Int) := by simp [zs, List.getD, hj]
theorem zs_of {l : List Int} (h : ∀ n ∈ l, (Lit.int .u64 n).wf = true) : ∃ m : List Nat, l = zs m ∧ ∀ x ∈ m, x < 18446744073709551616 := by
  induction l with
  | nil => exact ⟨[], rfl, fun x hx => by cases hx⟩
  | cons a l ih =>
    obtain ⟨m, hm, hb⟩ := ih (fun n hn => h n (List.mem_cons_of_mem _ hn))
    obtain ⟨x, hx, hx2⟩ := word_of (h a (List.mem_cons_self ..))
    exact ⟨x :: m, by rw [hm, hx]; rfl, fun y hy => by
      rcases List.mem_cons.1 hy with rfl | hy
      · exact hx2
      · exact hb y hy⟩
theorem own_below {w w' : World} {base : Nat} {e : TypeId} {size : Nat} {v : Value} {n : Nat} {xs : List Value} (h : w.ownsRow base e size v n xs) (hb : Below w.heap.size w w') : w'.ownsRow base e size v n xs :=
  h.kept (row := none) ⟨hb.os, hb.tape, hb.output, hb.size, fun q hq _ => hb.block q hq⟩ (by cases Value.ownBlock _ <;> simp)
end Go.Proofs.Ytjcmlelfmnonkaa
