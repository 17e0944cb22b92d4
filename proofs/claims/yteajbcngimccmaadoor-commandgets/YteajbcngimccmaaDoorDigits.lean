/-
  The walks of vlq.appendDigits and of the closure in it that calls itself: behind a row of bytes of the call's own they lay the bytes of a number. Conditions: the number is from 0 to 2^56 - 1, the row is short.
-/
import Derived.Test.YteajbcngimccmaaDoorSmall
import Derived.Laws.EntriesVeiled
namespace Go.Proofs.YteajbcngimccmaaDoor
open Go.RowKit

theorem info5 : (Tryd.prog.info? 5).map (fun i => (i.zero, i.size, i.bytes)) = some (some (.int .u8 0), 1, 1) := by kernel_rfl
theorem info3 : (Tryd.prog.info? 3).map (fun i => (i.zero, i.size, i.bytes)) = some (some (.int .i64 0), 1, 8) := by kernel_rfl

/-- The closure's two captured variables: itself, and the row, which holds the bytes xs. -/
def Cl (w : World) (B Ba Bo : Nat) (xs : List Int) : Prop :=
  w.heap[Ba]? = some (.cells #[.func (.func 36) #[] #[.pointer (some ⟨Ba, 0, none⟩), .pointer (some ⟨Bo, 0, none⟩)]] 57 (0, 0)) ∧
  ∃ v, w.heap[Bo]? = some (.cells #[v] 25 (0, 0)) ∧ w.ownsRow B 5 1 v xs.length (xs.map (Value.int .u8))

def AddPost (w : World) (B Ba Bo : Nat) (xs : List Int) (e : Ending) (w' : World) : Prop :=
  e = .returned (.tuple #[]) ∧ Cl w' B Ba Bo xs ∧ Below B w w'

theorem own_ne {w : World} {base g : Nat} {e t : TypeId} {v : Value} {n : Nat} {xs : List Value} {cs : Array Value} (h : w.ownsRow base e 1 v n xs) (hg : w.heap[g]? = some (.cells cs t (0, 0))) (hne : e ≠ t) : v.ownBlock ≠ some g := by
  rcases h.2 with ⟨rfl, _⟩ | ⟨g', cap, cur, rfl, _, hh, _⟩
  · simp [Value.ownBlock]
  · intro he
    have : g' = g := by simpa [Value.ownBlock] using he
    subst this
    rw [hh] at hg
    simp at hg
    exact hne hg.2

theorem own_form {w : World} {base : Nat} {e : TypeId} {v : Value} {n : Nat} {xs : List Value} (h : w.ownsRow base e 1 v n xs) : ∃ A c, v = .slice A n c := by
  rcases h.2 with ⟨rfl, rfl⟩ | ⟨g, cap, cur, rfl, _⟩
  · exact ⟨_, _, rfl⟩
  · exact ⟨_, _, rfl⟩

theorem one_grown {w w1 : World} {B Bo : Nat} {v u : Value} {n : Nat} {xs : List Value} {o : Obj} (hown : w.ownsRow B 5 1 v n xs) (hO : w.heap[Bo]? = some (.cells #[u] 25 (0, 0))) (hgrow : (w.alloc o).grownBy w1 v.ownBlock) :
    w1.heap[Bo]? = some (.cells #[u] 25 (0, 0)) :=
  ((hgrow.block Bo (by have := lt_of_block hO; simp; omega) (fun e => own_ne hown hO (by decide) e.symm)).trans (Below.heap_alloc w o Bo (lt_of_block hO))).trans hO

/-- One byte more, and the row's variable holds it. -/
theorem add_step {w w1 : World} {B Ba Bo : Nat} {xs : List Int} {v v' : Value} {x : Int} {o : Obj}
    (hAo : B ≤ Bo) (hab : Ba ≠ Bo)
    (hA : w.heap[Ba]? = some (.cells #[.func (.func 36) #[] #[.pointer (some ⟨Ba, 0, none⟩), .pointer (some ⟨Bo, 0, none⟩)]] 57 (0, 0)))
    (hO : w.heap[Bo]? = some (.cells #[v] 25 (0, 0)))
    (hown : w.ownsRow B 5 1 v xs.length (xs.map (Value.int .u8)))
    (hown' : w1.ownsRow B 5 1 v' (xs.length + 1) (xs.map (Value.int .u8) ++ [.int .u8 x]))
    (hgrow : (w.alloc o).grownBy w1 v.ownBlock) :
    Cl (w1.setCell ⟨Bo, 0, none⟩ v') B Ba Bo (xs ++ [x]) ∧ Below B w (w1.setCell ⟨Bo, 0, none⟩ v') := by
  have hAlt := lt_of_block hA
  have hOlt := lt_of_block hO
  have nA : v.ownBlock ≠ some Ba := own_ne hown hA (by decide)
  have nO : v.ownBlock ≠ some Bo := own_ne hown hO (by decide)
  have hA1 : w1.heap[Ba]? = some (.cells #[.func (.func 36) #[] #[.pointer (some ⟨Ba, 0, none⟩), .pointer (some ⟨Bo, 0, none⟩)]] 57 (0, 0)) :=
    ((hgrow.block Ba (by simp; omega) (fun e => nA e.symm)).trans (Below.heap_alloc w o Ba hAlt)).trans hA
  have hO1 : w1.heap[Bo]? = some (.cells #[v] 25 (0, 0)) :=
    ((hgrow.block Bo (by simp; omega) (fun e => nO e.symm)).trans (Below.heap_alloc w o Bo hOlt)).trans hO
  have nO' : v'.ownBlock ≠ some Bo := own_ne hown' hO1 (by decide)
  refine ⟨⟨(Below.heap_setCell _ _ _ _ hab).trans hA1, v', one_setCell hO1, ?_⟩, ?_⟩
  · have := ownsRow_setCell_other hown' (a := ⟨Bo, 0, none⟩) nO' v'
    simpa using this
  · exact (((Below.refl B w).alloc (by omega) o).grown hgrow (by simp; omega) (fun k hk => (hown.lt k hk).1)).setCell (by show B ≤ Bo; omega) _

set_option maxHeartbeats 400000 in
theorem add_any (B Ba Bo : Nat) (hBo : B ≤ Bo) (hab : Ba ≠ Bo) (k : Nat) : ∀ (n mark : Int) (xs : List Int) (w : World), n.toNat ≤ k → Cl w B Ba Bo xs → 0 ≤ n → n < 72057594037927936 → 0 ≤ mark → mark ≤ 128 →
    xs.length + (vb n mark).length ≤ 100000 →
    Calls Tryd.prog 36 #[.int .i64 n, .int .i64 mark, .pointer (some ⟨Ba, 0, none⟩), .pointer (some ⟨Bo, 0, none⟩)] w (AddPost w B Ba Bo (xs ++ vb n mark)) := by
  obtain ⟨i0, hi, hz0, hz1, hz2⟩ := info_parts info5
  induction k with
  | zero =>
    intro n mark xs w hk hc hn0 hn hm0 hm hx
    obtain ⟨hA, v, hO, hown⟩ := hc
    have hn' : n < 128 := by omega
    rw [vb_lo hn'] at hx ⊢
    simp only [List.length_singleton] at hx
    have cO := cell_of_one hO
    have hOlt := lt_of_block hO
    go_enter Tryd.func36, Tryd.ntmps36
    go_wp2_with (at_builtin; refine wpList_append_own _ rfl _ _ 25 rfl B 5 i0 (.int .u8 0) 1 1 Tryd.underlying25 hi hz0 hz1 hz2 rfl (by decide) _ _ _ rfl (hown.alloc _) ⟨w.heap.size, 0, none⟩ 1 1 [.int .u8 (n % 128 + mark)] rfl rfl ?c1 ?c2 ?c3 ?c4 ?c5 ?_)
    case c1 => exact cell_one_new _ _ _
    case c2 => intro u hu; simp at hu; subst hu; rfl
    case c3 => unfold maxLen; omega
    case c4 => omega
    case c5 => simp; omega
    intro v' w1 hown' hgrow _
    have R := add_step hBo hab hA hO hown hown' hgrow
    have hO1 := one_grown hown hO hgrow
    obtain ⟨A', c', hv'⟩ := own_form hown'
    have cO1 := cell_of_one hO1
    have fO1 := free_of_one hO1
    clear hown hown' hgrow hO1 hO hA cO
    subst hv'
    go_wp2
    go_end0
    exact ⟨rfl, R.1, R.2⟩
  | succ k ih =>
    intro n mark xs w hk hc hn0 hn hm0 hm hx
    by_cases hn' : n < 128
    · obtain ⟨hA, v, hO, hown⟩ := hc
      clear ih
      rw [vb_lo hn'] at hx ⊢
      simp only [List.length_singleton] at hx
      have cO := cell_of_one hO
      have hOlt := lt_of_block hO
      go_enter Tryd.func36, Tryd.ntmps36
      go_wp2_with (at_builtin; refine wpList_append_own _ rfl _ _ 25 rfl B 5 i0 (.int .u8 0) 1 1 Tryd.underlying25 hi hz0 hz1 hz2 rfl (by decide) _ _ _ rfl (hown.alloc _) ⟨w.heap.size, 0, none⟩ 1 1 [.int .u8 (n % 128 + mark)] rfl rfl ?d1 ?d2 ?d3 ?d4 ?d5 ?_)
      case d1 => exact cell_one_new _ _ _
      case d2 => intro u hu; simp at hu; subst hu; rfl
      case d3 => unfold maxLen; omega
      case d4 => omega
      case d5 => simp; omega
      intro v' w1 hown' hgrow _
      have R := add_step hBo hab hA hO hown hown' hgrow
      have hO1 := one_grown hown hO hgrow
      obtain ⟨A', c', hv'⟩ := own_form hown'
      have cO1 := cell_of_one hO1
      have fO1 := free_of_one hO1
      clear hown hown' hgrow hO1 hO hA cO
      subst hv'
      go_wp2
      go_end0
      exact ⟨rfl, R.1, R.2⟩
    · have H : Calls Tryd.prog 36 #[.int .i64 (n / 128), .int .i64 128, .pointer (some ⟨Ba, 0, none⟩), .pointer (some ⟨Bo, 0, none⟩)] w (AddPost w B Ba Bo (xs ++ vb (n / 128) 128)) :=
        ih (n / 128) 128 xs w (by omega) hc (by omega) (by omega) (by omega) (by omega) (by have := vb_step (m := mark) (m' := 128) hn'; omega)
      have cA := cell_of_one hc.1
      have hOw : Bo < w.heap.size := by obtain ⟨_, _, hO0, _⟩ := hc; exact lt_of_block hO0
      have hlen : (xs ++ vb (n / 128) 128).length + 1 ≤ 100000 := by have := vb_step (m := mark) (m' := 128) hn'; rw [List.length_append]; omega
      rw [vb_hi hn', ← List.append_assoc]
      generalize xs ++ vb (n / 128) 128 = ys at H hlen ⊢
      have HH := Lib.hid H
      have hn2 : 128 ≤ n := by omega
      clear H ih hc hx hn'
      go_enter Tryd.func36, Tryd.ntmps36
      go_wp2_with (first | (go_at_call 36; refine HH.out.mono ?_; rintro e w2 ⟨rfl, hcl, hbel⟩; obtain ⟨hA, v, hO, hown⟩ := hcl; have cO := cell_of_one hO; have hsz := hbel.size) | (at_builtin; refine wpList_append_own _ rfl _ _ 25 rfl B 5 i0 (.int .u8 0) 1 1 Tryd.underlying25 hi hz0 hz1 hz2 rfl (by decide) _ _ _ rfl (hown.alloc _) ⟨w2.heap.size, 0, none⟩ 1 1 [.int .u8 (n % 128 + mark)] rfl rfl ?e1 ?e2 ?e3 ?e4 ?e5 ?_))
      case e1 => exact cell_one_new _ _ _
      case e2 => intro u hu; simp at hu; subst hu; rfl
      case e3 => unfold maxLen; omega
      case e4 => omega
      case e5 => simp; omega
      intro v' w1 hown' hgrow _
      have R := add_step hBo hab hA hO hown hown' hgrow
      have hO1 := one_grown hown hO hgrow
      obtain ⟨A', c', hv'⟩ := own_form hown'
      have cO1 := cell_of_one hO1
      have fO1 := free_of_one hO1
      clear hown hown' hgrow hO1 hO hA cO
      subst hv'
      go_wp2
      go_end0
      exact ⟨rfl, R.1, hbel.trans R.2⟩

def OutPost (w : World) (B : Nat) (xs : List Int) (e : Ending) (w' : World) : Prop :=
  ∃ v, e = .returned v ∧ w'.ownsRow B 5 1 v xs.length (xs.map (Value.int .u8)) ∧ Below B w w'

set_option maxHeartbeats 400000 in
theorem digits_any (B : Nat) (v : Value) (n : Int) (xs : List Int) (w : World) (hB : B ≤ w.heap.size) (hown : w.ownsRow B 5 1 v xs.length (xs.map (Value.int .u8))) (hn0 : 0 ≤ n) (hn : n < 72057594037927936)
    (hx : xs.length + (vb n 0).length ≤ 100000) : Calls Tryd.prog 30 #[v, .int .i64 n] w (OutPost w B (xs ++ vb n 0)) := by
  obtain ⟨A, c, rfl⟩ := own_form hown
  have HC := Lib.hid (add_any B (w.heap.size + 1) w.heap.size hB (by omega) n.toNat n 0 xs ((w.alloc (.cells #[.slice A xs.length c] 25)).alloc
    (.cells #[.func (.func 36) #[] #[.pointer (some ⟨w.heap.size + 1, 0, none⟩), .pointer (some ⟨w.heap.size, 0, none⟩)]] 57)) (Nat.le_refl _)
    ⟨by have := heap_alloc_new (w.alloc (.cells #[.slice A xs.length c] 25)) (.cells #[.func (.func 36) #[] #[.pointer (some ⟨w.heap.size + 1, 0, none⟩), .pointer (some ⟨w.heap.size, 0, none⟩)]] 57); simpa using this,
      .slice A xs.length c, (Below.heap_alloc _ _ _ (by simp)).trans (heap_alloc_new w _), (hown.alloc _).alloc _⟩ hn0 hn (by omega) (by omega) hx)
  have hbw : Below B w ((w.alloc (.cells #[.slice A xs.length c] 25)).alloc
    (.cells #[.func (.func 36) #[] #[.pointer (some ⟨w.heap.size + 1, 0, none⟩), .pointer (some ⟨w.heap.size, 0, none⟩)]] 57)) := ((Below.refl B w).alloc hB _).alloc (by simp; omega) _
  clear hown
  generalize xs ++ vb n 0 = ys at HC ⊢
  go_enter Tryd.func30, Tryd.ntmps30
  go_wp2_with (go_at_call 36; refine HC.out.mono ?_; rintro e w2 ⟨rfl, hcl, hbel⟩; obtain ⟨hA, v, hO, hown⟩ := hcl; have cO := cell_of_one hO)
  go_ret
  exact ⟨v, rfl, hown, hbw.trans hbel⟩

end Go.Proofs.YteajbcngimccmaaDoor
