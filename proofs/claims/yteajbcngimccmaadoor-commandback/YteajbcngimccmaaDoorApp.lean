/-
  Laws on slices that the statements' walks use: 'append(v, s...)' where v is a row of the call's own and s is any slice of integers that reads as a list, nil or not; and 's[k:]'. No conditions beyond sizes.
-/
import Derived.Test.YteajbcngimccmaaDoorGet
import Derived.OpenShut
namespace Go.Proofs.YteajbcngimccmaaDoor
open Go.RowKit

theorem ints_one (k : IntKind) (xs : List Int) : ∀ u ∈ xs.map (Value.int k), u.oneCell' = true := by
  intro u hu
  obtain ⟨n, _, rfl⟩ := List.mem_map.1 hu
  rfl

theorem run_app {P : Program} (w : World) (base : Nat) (t ty e : TypeId) (i : TypeInfo) (z : Value) (bytes : Nat) (ht : P.underlying t = some (.slice e)) (hi : P.info? e = some i) (hz : i.zero = some z)
    (hsize : i.size = 1) (hby : i.bytes = bytes) (hzs : z.cells.size = 1) (v : Value) (n : Nat) (xs : List Value) (hown : w.ownsRow base e 1 v n xs)
    (B : Nat) (k : IntKind) (A : Option Addr) (c : Nat) (news : List Int) (hs : Sl w B k A news) (h63 : n + news.length ≤ maxLen) (hbytes : (n + news.length) * bytes ≤ 140737488355328) (hbase : base ≤ w.heap.size) :
    ∃ v' w', (Builtin.append_ #[t, t] ty #[v, .slice A news.length c]).run P w = .ok v' w' ∧ w'.ownsRow base e 1 v' (n + news.length) (xs ++ news.map (Value.int k)) ∧ w.grownBy w' v.ownBlock := by
  rcases A with _ | ad
  · have hn : news = [] := by
      rcases hs with h | ⟨b, off, h, _⟩
      · exact h
      · cases h
    subst hn
    refine ⟨v, w, ?_, by simpa using hown, World.grownBy.refl w _⟩
    rcases hown.2 with ⟨rfl, rfl⟩ | ⟨g, cap, cur, rfl, _, _, hnc, _⟩
    · simp [Builtin.append_, run_underlying ht, sizeOf, typeInfo, hi, Builtin.lenOf, Builtin.firstCells]
    · simp [Builtin.append_, run_underlying ht, sizeOf, typeInfo, hi, Builtin.lenOf, Builtin.firstCells, hnc, storeCells]
  · obtain ⟨v', w', h1, h2, h3, _⟩ := run_append_own (P := P) w base t ty e i z 1 bytes ht hi hz hsize hby hzs (by decide) v n xs hown ad news.length c (news.map (Value.int k)) (by simp)
      (fun j u hu => by
        rcases hs with rfl | ⟨b, off, h, _, hc⟩
        · simp at hu
        · cases h
          rw [List.getElem?_map] at hu
          obtain ⟨x, hx, rfl⟩ := Option.map_eq_some_iff.1 hu
          rw [Addr.add_lit]
          exact hc j x hx) (ints_one k news) h63 hbytes hbase
    exact ⟨v', w', h1, h2, h3⟩

theorem wpList_app {P : Program} {w : World} {ops : Array Oper} {rest : List Oper} {o : Oper} {a : Act} {Q : Exit → Act → World → Prop} (hgd : o.guard = none) (s x : Operand) (t : TypeId)
    (ho : o.op = .call { callee := .builtin .append, args := #[s, x], argTypes := #[t, t] })
    (base : Nat) (e : TypeId) (i : TypeInfo) (z : Value) (bytes : Nat) (ht : P.underlying t = some (.slice e)) (hi : P.info? e = some i) (hz : i.zero = some z)
    (hsize : i.size = 1) (hby : i.bytes = bytes) (hzs : z.cells.size = 1) (v : Value) (n : Nat) (xs : List Value) (hv : a.eval s = v) (hown : w.ownsRow base e 1 v n xs)
    (B : Nat) (k : IntKind) (A : Option Addr) (c : Nat) (news : List Int) (hx : a.eval x = .slice A news.length c) (hs : Sl w B k A news) (h63 : n + news.length ≤ maxLen) (hbytes : (n + news.length) * bytes ≤ 140737488355328) (hbase : base ≤ w.heap.size)
    (h : ∀ v' w', w'.ownsRow base e 1 v' (n + news.length) (xs ++ news.map (Value.int k)) → w.grownBy w' v.ownBlock → wpList P ops Q rest (a.put o.dst v') w') : wpList P ops Q (o :: rest) a w := by
  obtain ⟨v', w', hr, h2, h3⟩ := run_app (P := P) w base t o.type e i z bytes ht hi hz hsize hby hzs v n xs hown B k A c news hs h63 hbytes hbase
  refine wpList_plain hgd fun K hK => ?_
  unfold Oper.wp execOp
  simp only [ho, resolve, invoke, builtin, Sem.run_bind, Sem.run_pure, Result.andThen_ok, List.map_toArray, List.map_cons, List.map_nil, hv, hx, hr]
  exact hK _ _ (h v' w' h2 h3)

/-- The same where the operation is guarded, and its guard says yes. -/
theorem wpList_app_on {P : Program} {w : World} {ops : Array Oper} {rest : List Oper} {o : Oper} {a : Act} {Q : Exit → Act → World → Prop} (hw : Region.wanted o (yielded ops a.tmps) = true) (s x : Operand) (t : TypeId)
    (ho : o.op = .call { callee := .builtin .append, args := #[s, x], argTypes := #[t, t] })
    (base : Nat) (e : TypeId) (i : TypeInfo) (z : Value) (bytes : Nat) (ht : P.underlying t = some (.slice e)) (hi : P.info? e = some i) (hz : i.zero = some z)
    (hsize : i.size = 1) (hby : i.bytes = bytes) (hzs : z.cells.size = 1) (v : Value) (n : Nat) (xs : List Value) (hv : a.eval s = v) (hown : w.ownsRow base e 1 v n xs)
    (B : Nat) (k : IntKind) (A : Option Addr) (c : Nat) (news : List Int) (hx : a.eval x = .slice A news.length c) (hs : Sl w B k A news) (h63 : n + news.length ≤ maxLen) (hbytes : (n + news.length) * bytes ≤ 140737488355328) (hbase : base ≤ w.heap.size)
    (h : ∀ v' w', w'.ownsRow base e 1 v' (n + news.length) (xs ++ news.map (Value.int k)) → w.grownBy w' v.ownBlock → wpList P ops Q rest (a.put o.dst v') w') : wpList P ops Q (o :: rest) a w := by
  obtain ⟨v', w', hr, h2, h3⟩ := run_app (P := P) w base t o.type e i z bytes ht hi hz hsize hby hzs v n xs hown B k A c news hs h63 hbytes hbase
  refine wpList_step fun K hK => ?_
  rw [if_pos hw]
  unfold Oper.wp execOp
  simp only [ho, resolve, invoke, builtin, Sem.run_bind, Sem.run_pure, Result.andThen_ok, List.map_toArray, List.map_cons, List.map_nil, hv, hx, hr]
  exact hK _ _ (h v' w' h2 h3)

/-- What 's[k:]' is: one slice, whatever the capacity, that reads as what stands behind the first k. -/
theorem tail_run {w : World} {B : Nat} {A : Option Addr} {xs : List Int} (h : Sl w B .u8 A xs) (c k : Nat) (l : Int) (hl : l = (k : Int)) (hk : k ≤ xs.length) (_hc : xs.length ≤ c) :
    ∃ A', (∀ W, (Instr.sliceAt 25 (.slice A xs.length c) (some (.int .i64 l)) none none).run Tryd.prog W = .ok (.slice A' (xs.length - k) (c - k)) W) ∧
      (∀ W, (Instr.slice 25 (.slice A xs.length c) (some (.int .i64 l)) none none).run Tryd.prog W = .ok (.slice A' (xs.length - k) (c - k)) W) ∧ Sl w B .u8 A' (xs.drop k) := by
  subst hl
  have hsz : ∀ W, (sizeOf (Tryd.prog.elem 25)).run Tryd.prog W = .ok 1 W := fun W => by
    have : Tryd.prog.elem 25 = 5 := by kernel_rfl
    rw [this]
    simp [go_sem]
  have hu : Tryd.prog.underlying 25 = some (.slice (Tryd.prog.elem 25)) := by kernel_rfl
  have h2 : ∀ W, (Instr.slice 25 (.slice A xs.length c) (some (.int .i64 (k : Int))) none none).run Tryd.prog W = .ok (.slice (if c = k then A else A.map (·.add (k * 1))) (xs.length - k) (c - k)) W := fun W => by
    rw [run_slice_l W 25 A xs.length c hu .i64 k (by omega) (by omega), hsz]
    simp [sliced]
  refine ⟨if c = k then A else A.map (·.add (k * 1)), fun W => by rw [run_sliceAt_slice W 25 _ _ _ _ hu]; exact h2 W, h2, ?_⟩
  by_cases hck : c = k
  · rw [List.drop_of_length_le (by omega)]; exact Sl.nil
  · rw [if_neg hck]
    rcases h with rfl | ⟨b, off, rfl, hb, hcell⟩
    · simp; exact Sl.nil
    · have : Sl w B .u8 (some ⟨b, off, none⟩) xs := .inr ⟨b, off, rfl, hb, hcell⟩
      simp only [Option.map_some, Nat.mul_one, Addr.add_lit]
      exact this.drop k

theorem byte_of {n : Int} (h : (Lit.int .u8 n).wf = true) : 0 ≤ n ∧ n ≤ 255 := by
  have := bounds_u8 h
  omega
theorem int_of {n : Int} (h : (Lit.int .i64 n).wf = true) : -9223372036854775808 ≤ n ∧ n ≤ 9223372036854775807 := by
  have := bounds_i64 h
  omega


theorem putall_yes (A : Option Addr) (c : Nat) (l : List Int) (w : World) (hl : l.length ≤ 10000) (hs : Sl w w.heap.size .i64 A l) (hok : okAll l = true) : Calls Tryd.prog 18 #[.slice A l.length c] w (OwnPost w (pb l) 0) :=
  (putall_any A c l w hl hs).mono fun _ _ h => by
    rcases h with ⟨_, h⟩ | ⟨h, _⟩
    · exact h
    · rw [hok] at h; cases h

theorem putall_no (A : Option Addr) (c : Nat) (l : List Int) (w : World) (hl : l.length ≤ 10000) (hs : Sl w w.heap.size .i64 A l) (hok : okAll l = false) :
    Calls Tryd.prog 18 #[.slice A l.length c] w fun e w' => e = .returned (.tuple #[.slice none 0 0, .int .i64 1]) ∧ Below w.heap.size w w' :=
  (putall_any A c l w hl hs).mono fun _ _ h => by
    rcases h with ⟨h, _⟩ | ⟨_, h⟩
    · rw [hok] at h; cases h
    · exact h

theorem okAll_append (a b : List Int) : okAll (a ++ b) = (okAll a && okAll b) := by simp [okAll]
theorem pb_append (a b : List Int) : pb (a ++ b) = pb a ++ pb b := by simp [pb]
theorem str_append (a b : List Int) : strOfNums a ++ strOfNums b = strOfNums (a ++ b) := by
  apply ByteArray.ext
  rw [ByteArray.data_append]
  simp [strOfNums]

end Go.Proofs.YteajbcngimccmaaDoor
