/-
  The walks of the document's own Bound, thing, From, Reaches, Closure. Conditions: at most 1000 edges.
-/
import Derived.Test.YtnfjfpiijikniaaCl
namespace Go.Proofs.Ytnfjfpiijikniaa.Gp
open Go.RowKit
set_option linter.unusedVariables false

theorem bound_any (n : Int) (w : World) : Calls Try.prog 23 #[.int .i64 n] w (fun e w' => e = .returned (.int .i64 (am n : Int)) ∧ w' = w) := by
  have H : Hid ((n < 0 → (am n : Int) = 0) ∧ (100 < n → (am n : Int) = 100) ∧ (0 ≤ n → n ≤ 100 → (am n : Int) = n)) := by
    refine ⟨fun h => ?_, fun h => ?_, fun h k => ?_⟩ <;> unfold am <;> omega
  generalize (am n : Int) = r at *
  by_cases h0 : n < 0
  · obtain rfl := H.out.1 h0
    clear H
    go_enter Try.func23, Try.ntmps23
    go_wp2
    go_ret
    exact ⟨rfl, rfl⟩
  · by_cases h1 : 100 < n
    · obtain rfl := H.out.2.1 h1
      clear H
      go_enter Try.func23, Try.ntmps23
      go_wp2
      go_ret
      exact ⟨rfl, rfl⟩
    · obtain rfl := H.out.2.2 (by omega) (by omega)
      clear H
      go_enter Try.func23, Try.ntmps23
      go_wp2
      go_ret
      exact ⟨rfl, rfl⟩

theorem thing_any (n i : Int) (r : Bool) (hr : r = decide (0 ≤ i ∧ i < (am n : Int))) (w : World) : Calls Try.prog 29 #[.int .i64 n, .int .i64 i] w (fun e w' => e = .returned (.bool r) ∧ w' = w) := by
  have HB := Lib.hid (bound_any n w)
  generalize (am n : Int) = m at *
  by_cases h0 : 0 ≤ i
  · by_cases h1 : i < m
    · obtain rfl : r = true := by rw [hr]; simp [h0, h1]
      clear hr
      go_enter Try.func29, Try.ntmps29
      go_wp2_with fail
      refine HB.out.mono ?_
      rintro e w1 ⟨rfl, rfl⟩
      go_wp2
      go_ret
      exact ⟨rfl, rfl⟩
    · have h3 : decide (i < m) = false := decide_eq_false h1
      obtain rfl : r = false := by rw [hr]; simp [h1]
      clear hr
      go_enter Try.func29, Try.ntmps29
      go_wp2_with fail
      refine HB.out.mono ?_
      rintro e w1 ⟨rfl, rfl⟩
      go_wp2
      go_ret
      exact ⟨rfl, rfl⟩
  · obtain rfl : r = false := by rw [hr]; simp [h0]
    clear hr
    go_enter Try.func29, Try.ntmps29
    go_wp2
    go_ret
    exact ⟨rfl, rfl⟩

/-- What From marks, edge by edge: itself, and what an edge leads to from what is marked. -/
structure Mk (m : Nat) (l : List (Int × Int)) (f : Nat) (o : Nat → Bool) : Prop where
  has : o f = true
  rt : ∀ x, o x = true → Rt (Ed m l) f x
/-- No edge of the first k leads out. -/
def Ct (m : Nat) (l : List (Int × Int)) (k : Nat) (o : Nat → Bool) : Prop := ∀ a b, a < m → b < m → ((a : Int), (b : Int)) ∈ l.take k → o a = true → o b = true
theorem Mk.add {m : Nat} {l : List (Int × Int)} {f a b : Nat} {o : Nat → Bool} (h : Mk m l f o) (e : Ed m l a b) (ha : o a = true) : Mk m l f (upd o b) :=
  ⟨by simp [upd, h.has], fun x hx => by
    rcases upd_iff.1 hx with hx | rfl
    · exact h.rt x hx
    · exact (h.rt a ha).step e⟩
theorem Mk.end_ {m : Nat} {l : List (Int × Int)} {f : Nat} {o : Nat → Bool} (h : Mk m l f o) (hc : Ct m l l.length o) (x : Nat) : o x = rb (Ed m l) f x := by
  rw [Bool.eq_iff_iff, rb_iff]
  refine ⟨h.rt x, fun hr => hr.stays (fun x => o x = true) h.has fun a b ha e => ?_⟩
  exact hc a b e.1 e.2.1 (by rw [List.take_length]; exact e.2.2) ha
theorem Ct.zero {m : Nat} {l : List (Int × Int)} {o : Nat → Bool} : Ct m l 0 o := fun a b _ _ h => by simp at h
theorem Ct.next {m : Nat} {l : List (Int × Int)} {k : Nat} {o : Nat → Bool} (h : Ct m l k o) (hk : k < l.length) (hn : ∀ a b, a < m → b < m → l[k] = ((a : Int), (b : Int)) → o a = true → o b = true) : Ct m l (k + 1) o := fun a b ha hb he ho => by
  rw [List.take_succ_eq_append_getElem hk, List.mem_append, List.mem_singleton] at he
  rcases he with he | he
  · exact h a b ha hb he ho
  · exact hn a b ha hb he.symm ho

/-- The call gave a row of bools of its own. -/
def RowPost (w : World) (o : Nat → Bool) (m : Nat) (e : Ending) (w' : World) : Prop := ∃ s, e = .returned (.slice (some ⟨s, 0, none⟩) m m) ∧ Br w' s o m ∧ w.heap.size ≤ s ∧ Below w.heap.size w w'

/-- What From marks, of a number that may be no thing's. -/
noncomputable def fr (n : Int) (l : List (Int × Int)) (f : Int) : Nat → Bool := fun x => decide (0 ≤ f ∧ f < (am n : Int)) && rb (Ed (am n) l) f.toNat x

set_option maxRecDepth 100000 in
set_option maxHeartbeats 4000000 in
theorem From_any (n : Int) (A : Option Addr) (c : Nat) (l : List (Int × Int)) (f : Int) (hl : l.length ≤ 1000) (w : World) (hs : Es w w.heap.size A l) : Calls Try.prog 24 #[.int .i64 n, .slice A l.length c, .int .i64 f] w (RowPost w (fr n l f) (am n)) := by
  obtain ⟨j0, hj, hy0, hy1, hy2⟩ := info_parts info4
  have HB := Lib.hid (bound_any n w)
  have hle := am_le n
  have HT := Lib.hid (fun (i : Int) (r : Bool) (h : r = decide (0 ≤ i ∧ i < (am n : Int))) W => thing_any n i r h W)
  by_cases hf : 0 ≤ f ∧ f < (am n : Int)
  · obtain ⟨a, rfl⟩ := Int.eq_ofNat_of_zero_le hf.1
    have hE : Hid (∀ x, fr n l (a : Int) x = rb (Ed (am n) l) a x) := fun x => by
      show (decide _ && _) = _
      rw [decide_eq_true hf, Bool.true_and]
      rfl
    generalize fr n l (a : Int) = oo at *
    generalize am n = m at *
    have ha : a < m := by omega
    have HF := Lib.hid (HT.out (a : Int) true (by rw [decide_eq_true hf]))
    have hai : (a : Int) < (m : Int) := by omega
    have ha0 : (0 : Int) ≤ (a : Int) := by omega
    clear hf
    go_enter Try.func24, Try.ntmps24
    go_wp2_with (first | (go_at_call 23; refine HB.out.mono ?_; rintro e w1 ⟨rfl, rfl⟩) | (at_make; refine wpList_make_full _ rfl _ _ 38 rfl w1.heap.size 4 j0 (.bool false) 1 (by kernel_rfl) hj hy0 hy1 _ _ _ _ m rfl rfl rfl rfl (by rw [hy2]; omega) (by unfold maxLen; omega) (Nat.le_refl _) ?_; intro w3 hown3 hgrow3) | (go_at_call 29; refine (HF.out _).mono ?_; rintro e w4 ⟨rfl, rfl⟩; have S0 : Br w4 w1.heap.size (fun _ => false) m := tb_made hown3 rfl; have c0 := S0.cell ha; have f0 := Tb.free S0 a))
    have S1 := S0.set a true
    have M1 : Mk m l a (upd (fun _ => false) a) := ⟨by simp [upd], fun x hx => by
      simp [upd] at hx
      rw [hx]; exact .refl⟩
    have S1 := S0.upd a
    have B1 : Below w1.heap.size w1 (w4.setCell ⟨w1.heap.size, a, none⟩ (.bool true)) := ((Below.refl _ w1).grown hgrow3 (Nat.le_refl _) (by simp)).setCell (Nat.le_refl _) _
    have M1 := Lib.hid M1
    clear S0 c0 f0 HF hown3 hgrow3 hj hy0 hy1 hy2
    revert S1 B1
    generalize w4.setCell ⟨w1.heap.size, a, none⟩ (.bool true) = W5
    intro S1 B1
    go_loopg [9] (uns m (upd (fun _ => false) a) + 1) (fun g v wr => ∃ (o : Nat → Bool) (mb : Bool), v = .bool mb ∧ Hid (uns m o + (if mb then 1 else 0) ≤ g) ∧ Hid (Mk m l a o) ∧ Hid (mb = false → Ct m l l.length o) ∧ Br wr w1.heap.size o m ∧ Below w1.heap.size w1 wr)
    case atStart => exact ⟨_, true, rfl, by show _ ≤ _; simp, M1.out, fun h => (by cases h), S1, B1⟩
    case round =>
      obtain ⟨o, mb, rfl, hm, hM, hC, hS, hbel⟩ := hrel
      clear S1 B1 M1
      cases mb with
      | false =>
        have hx := Lib.hid fun x => (hM.out.end_ (hC.out rfl) x).trans (hE.out x).symm
        go_wp2
        go_ret
        exact ⟨w1.heap.size, rfl, hS.congr fun x _ => hx.out x, Nat.le_refl _, hbel⟩
      | true =>
        go_wp2
        go_loopg [9, 10] l.length (fun g v t W => ∃ (k : Nat) (o' : Nat → Bool) (mb : Bool), k + g = l.length ∧ v = .bool mb ∧ t = .int .i64 (k : Int) ∧ Hid (uns m o' + (if mb then 1 else 0) ≤ uns m o) ∧ Hid (Mk m l a o') ∧ Hid (mb = false → Ct m l k o') ∧ Br W w1.heap.size o' m ∧ Below w1.heap.size w1 W)
        case atStart => exact ⟨0, o, false, by omega, rfl, rfl, by show _ ≤ _; simp, hM.out, fun _ => Ct.zero, hS, hbel⟩
        case round =>
          obtain ⟨k, o', mb, hk, rfl, rfl, hm', hM', hC', hS', hbel'⟩ := hrel
          by_cases hlt : k < l.length
          · have hki : (k : Int) < (l.length : Int) := by omega
            have hk0 : (0 : Int) ≤ (k : Int) := by omega
            obtain ⟨q, off, rfl, hq, q0, q1⟩ := (hs.below hbel').at_ hlt
            have NX := Lib.hid (fun (h : mb = false) (hn : ∀ a b, a < m → b < m → l[k] = ((a : Int), (b : Int)) → o' a = true → o' b = true) => (hC'.out h).next hlt hn)
            have EX := Lib.hid (fun (a b : Nat) (ha : a < m) (hb : b < m) (h : l[k] = ((a : Int), (b : Int))) => (⟨ha, hb, h ▸ List.getElem_mem hlt⟩ : Ed m l a b))
            generalize l[k] = r at *
            obtain ⟨x, y⟩ := r
            simp only at q0 q1
            clear hS hbel hC' hM hC
            by_cases hx : 0 ≤ x ∧ x < (m : Int)
            · have K1 := Lib.hid (HT.out x true (by rw [decide_eq_true hx]))
              by_cases hy : 0 ≤ y ∧ y < (m : Int)
              · have K2 := Lib.hid (HT.out y true (by rw [decide_eq_true hy]))
                obtain ⟨d, rfl⟩ := Int.eq_ofNat_of_zero_le hx.1
                obtain ⟨t, rfl⟩ := Int.eq_ofNat_of_zero_le hy.1
                have hd : d < m := by omega
                have ht : t < m := by omega
                have hdi : (d : Int) < (m : Int) := by omega
                have hti : (t : Int) < (m : Int) := by omega
                have hd0 : (0 : Int) ≤ (d : Int) := by omega
                have ht0 : (0 : Int) ≤ (t : Int) := by omega
                have EE := Lib.hid (EX.out d t hd ht rfl)
                have cd := hS'.cell hd
                have ct := hS'.cell ht
                have ft := Tb.free hS' t
                clear EX hx hy
                rcases hod : o' d with _ | _
                · rw [hod] at cd
                  have NN : Hid (mb = false → Ct m l (k + 1) o') := fun h => NX.out h fun a b _ _ e ho => by
                    simp only [Prod.mk.injEq] at e
                    obtain rfl : d = a := by omega
                    rw [hod] at ho; cases ho
                  clear hod NX
                  go_wp2_with fail
                  refine (K1.out _).mono ?_
                  rintro e w6 ⟨rfl, rfl⟩
                  go_wp2_with fail
                  refine (K2.out _).mono ?_
                  rintro e w7 ⟨rfl, rfl⟩
                  go_wp2
                  go_roundg (l.length - (k + 1))
                  case measure => omega
                  case rel => exact ⟨k + 1, o', mb, by omega, rfl, by go_num, hm'.out, hM'.out, NN.out, hS', hbel'⟩
                · rw [hod] at cd
                  rcases hot : o' t with _ | _
                  · rw [hot] at ct
                    have M2 := Lib.hid (hM'.out.add EE.out hod)
                    have U2 := Lib.hid (uns_upd ht hot)
                    have S2 := hS'.upd t
                    have B2 := hbel'.setCell (p := ⟨w1.heap.size, t, none⟩) (Nat.le_refl _) (.bool true)
                    clear hod NX hot
                    go_wp2_with fail
                    refine (K1.out _).mono ?_
                    rintro e w6 ⟨rfl, rfl⟩
                    go_wp2_with fail
                    refine (K2.out _).mono ?_
                    rintro e w7 ⟨rfl, rfl⟩
                    go_wp2
                    go_roundg (l.length - (k + 1))
                    case measure => omega
                    case rel => exact ⟨k + 1, upd o' t, true, by omega, rfl, by go_num, by have := U2.out; have := hm'.out; show _ ≤ _; simp; omega, M2.out, fun h => (by cases h), S2, B2⟩
                  · rw [hot] at ct
                    have NN : Hid (mb = false → Ct m l (k + 1) o') := fun h => NX.out h fun a b _ _ e ho => by
                      simp only [Prod.mk.injEq] at e
                      obtain rfl : t = b := by omega
                      exact hot
                    clear hod NX hot
                    go_wp2_with fail
                    refine (K1.out _).mono ?_
                    rintro e w6 ⟨rfl, rfl⟩
                    go_wp2_with fail
                    refine (K2.out _).mono ?_
                    rintro e w7 ⟨rfl, rfl⟩
                    go_wp2
                    go_roundg (l.length - (k + 1))
                    case measure => omega
                    case rel => exact ⟨k + 1, o', mb, by omega, rfl, by go_num, hm'.out, hM'.out, NN.out, hS', hbel'⟩
              · have K2 := Lib.hid (HT.out y false (by rw [decide_eq_false hy]))
                have NN : Hid (mb = false → Ct m l (k + 1) o') := fun h => NX.out h fun a b _ hb e ho => by
                  simp only [Prod.mk.injEq] at e
                  omega
                clear EX NX hx hy
                go_wp2_with fail
                refine (K1.out _).mono ?_
                rintro e w6 ⟨rfl, rfl⟩
                go_wp2_with fail
                refine (K2.out _).mono ?_
                rintro e w7 ⟨rfl, rfl⟩
                go_wp2
                go_roundg (l.length - (k + 1))
                case measure => omega
                case rel => exact ⟨k + 1, o', mb, by omega, rfl, by go_num, hm'.out, hM'.out, NN.out, hS', hbel'⟩
            · have K1 := Lib.hid (HT.out x false (by rw [decide_eq_false hx]))
              have NN : Hid (mb = false → Ct m l (k + 1) o') := fun h => NX.out h fun a b ha _ e ho => by
                simp only [Prod.mk.injEq] at e
                omega
              obtain ⟨ry, hry⟩ : ∃ ry, ry = decide (0 ≤ y ∧ y < (m : Int)) := ⟨_, rfl⟩
              have K2 := Lib.hid (HT.out y ry hry)
              clear EX NX hx hry
              go_wp2_with fail
              refine (K1.out _).mono ?_
              rintro e w6 ⟨rfl, rfl⟩
              go_wp2_with fail
              refine (K2.out _).mono ?_
              rintro e w7 ⟨rfl, rfl⟩
              go_wp2
              go_roundg (l.length - (k + 1))
              case measure => omega
              case rel => exact ⟨k + 1, o', mb, by omega, rfl, by go_num, hm'.out, hM'.out, NN.out, hS', hbel'⟩
          · obtain rfl : k = l.length := by omega
            go_wp2
            go_roundg (uns m o' + (if mb then 1 else 0))
            case measure => have := hm.out; have := hm'.out; simp at *; omega
            case rel => exact ⟨o', mb, rfl, Nat.le_refl _, hM'.out, hC'.out, hS', hbel'⟩
  · have hE : Hid (∀ x, fr n l f x = false) := fun x => by
      show (decide _ && _) = _
      rw [decide_eq_false hf, Bool.false_and]
    generalize fr n l f = oo at *
    generalize am n = m at *
    have HF := Lib.hid (HT.out f false (by rw [decide_eq_false hf]))
    clear hf
    go_enter Try.func24, Try.ntmps24
    go_wp2_with (first | (go_at_call 23; refine HB.out.mono ?_; rintro e w1 ⟨rfl, rfl⟩) | (at_make; refine wpList_make_full _ rfl _ _ 38 rfl w1.heap.size 4 j0 (.bool false) 1 (by kernel_rfl) hj hy0 hy1 _ _ _ _ m rfl rfl rfl rfl (by rw [hy2]; omega) (by unfold maxLen; omega) (Nat.le_refl _) ?_; intro w3 hown3 hgrow3) | (go_at_call 29; refine (HF.out _).mono ?_; rintro e w4 ⟨rfl, rfl⟩))
    go_ret
    have S0 : Br w4 w1.heap.size (fun _ => false) m := tb_made hown3 rfl
    exact ⟨w1.heap.size, rfl, S0.congr fun x _ => (hE.out x).symm, Nat.le_refl _, (Below.refl _ w1).grown hgrow3 (Nat.le_refl _) (by simp)⟩

end Go.Proofs.Ytnfjfpiijikniaa.Gp
