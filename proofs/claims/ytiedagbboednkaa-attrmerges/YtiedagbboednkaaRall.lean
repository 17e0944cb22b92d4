/-
  The walks of the document's All, and of its Same of two lists of numbers, where they are the same. Conditions: at most 1000 deps, at most 1000 attributes.
-/
import Derived.Test.YtiedagbboednkaaRmg
import Derived.Deep.RegionLaw
import Derived.Deep.AppendLies
namespace Go.Proofs.Ytiedagbboednkaa
open Go.RowKit
set_option linter.unusedVariables false

set_option maxHeartbeats 400000 in
theorem eq_any (A A' : Option Addr) (c c' : Nat) (xs : List Int) (w : World) (hl : xs.length ≤ 4611686018427387904) (hs : Sl w w.heap.size .i64 A xs) (hs' : Sl w w.heap.size .i64 A' xs) :
    Calls Try.prog 21 #[.slice A xs.length c, .slice A' xs.length c'] w (UpPost w) := by
  go_enter Try.func21, Try.ntmps21
  go_wp2
  go_loopw [5] (fun i wr => ∃ k : Nat, k ≤ xs.length ∧ i = .int .i64 (k : Int) ∧ Below w.heap.size w wr) (fun i _ => xs.length - (intOf i).toNat)
  case atStart => exact ⟨0, by omega, rfl, Below.refl _ _⟩
  case round =>
    obtain ⟨k, hk, rfl, hbel⟩ := hrel
    by_cases hlt : k < xs.length
    · obtain ⟨b, off, rfl, hb, hcell⟩ := (hs.below hbel).at_ hlt
      obtain ⟨b', off', rfl, hb', hcell'⟩ := (hs'.below hbel).at_ hlt
      generalize xs.getD k 0 = x at hcell hcell'
      go_wp2
      go_quiet (fail)
      go_wp2
      go_roundw
      case rel => exact ⟨k + 1, by omega, by go_num, ⟨hbel.os, hbel.tape, hbel.output, hbel.size, hbel.block⟩⟩
      case measure => simp [intOf]; omega
    · go_wp2
      go_ret
      exact ⟨rfl, hbel⟩

theorem mg_take (l : List (Int × List Int)) (k : Nat) (h : k < l.length) : jn (mg (l.take k)) (l[k]).2 = mg (l.take (k + 1)) := by
  rw [List.take_succ_eq_append_getElem h, jn_mg]
theorem lg_le_take (l : List (Int × List Int)) (k : Nat) : lg (l.take k) ≤ lg l := lg_bd _ fun r hr => lg_le l r (List.mem_of_mem_take hr)

theorem sl_set {w : World} {B M : Nat} {E : Option Addr} {zs : List Int} (h : Sl w w.heap.size .i64 E zs) (hf : Fr B E zs) (hM : M < B) {u v : Value} : Sl ((w.setCell ⟨M, 0, none⟩ u).setCell ⟨M, 1, none⟩ v) ((w.setCell ⟨M, 0, none⟩ u).setCell ⟨M, 1, none⟩ v).heap.size .i64 E zs := by
  rcases h with h | ⟨b, off, rfl, hlt, hc⟩
  · exact .inl h
  · rcases hf with h | ⟨b', off', he, hb⟩
    · exact .inl h
    · simp only [Option.some.injEq, Addr.mk.injEq] at he
      obtain ⟨rfl, rfl, _⟩ := he
      refine .inr ⟨b, off, rfl, by simpa using hlt, fun j x hx => ?_⟩
      rw [World.cell?_setCell_other _ _ _ _ (fun hh => by have := congrArg Addr.block hh; simp at this; omega), World.cell?_setCell_other _ _ _ _ (fun hh => by have := congrArg Addr.block hh; simp at this; omega)]
      exact hc j x hx

set_option maxHeartbeats 2000000 in
theorem rall_any (A : Option Addr) (c : Nat) (l : List (Int × List Int)) (w : World) (hl : l.length ≤ 1000) (hn : lg l ≤ 1000) (hs : Rc w w.heap.size A l) : Calls Try.prog 20 #[.slice A l.length c] w (AtPost w (sq l) (mg l)) := by
  have Z1 : (w.alloc (.cells #[.int .i64 0, .slice none 0 0] 24)).heap.size = w.heap.size + 1 := by simp
  have X0 : Ax ((w.alloc (.cells #[.int .i64 0, .slice none 0 0] 24)).alloc (.cells #[.int .i64 0, .slice none 0 0] 24)) w.heap.size 0 none 0 0 := (ax_new w 0 none 0 0).old _
  have M0 : Ax ((w.alloc (.cells #[.int .i64 0, .slice none 0 0] 24)).alloc (.cells #[.int .i64 0, .slice none 0 0] 24)) (w.heap.size + 1) 0 none 0 0 := by
    have := ax_new (w.alloc (.cells #[.int .i64 0, .slice none 0 0] 24)) 0 none 0 0
    rw [Z1] at this
    exact this
  have BW : Below w.heap.size w ((w.alloc (.cells #[.int .i64 0, .slice none 0 0] 24)).alloc (.cells #[.int .i64 0, .slice none 0 0] 24)) := ((Below.refl _ _).alloc (Nat.le_refl _) _).alloc (by simp) _
  go_enter Try.func20, Try.ntmps20
  go_wp2
  generalize ((w.alloc (.cells #[.int .i64 0, .slice none 0 0] 24)).alloc (.cells #[.int .i64 0, .slice none 0 0] 24)) = W0 at *
  go_loopw [4] (fun i wr => ∃ (k : Nat) (E : Option Addr) (d : Nat), k ≤ l.length ∧ i = .int .i64 (k : Int) ∧ Ax wr (w.heap.size + 1) (sq (l.take k)) E (mg (l.take k)).length d ∧ Sl wr wr.heap.size .i64 E (mg (l.take k)) ∧ Ax wr w.heap.size 0 none 0 0 ∧ Fr (w.heap.size + 2) E (mg (l.take k)) ∧ Below w.heap.size w wr) (fun i _ => l.length - (intOf i).toNat)
  case atStart => exact ⟨0, none, 0, by omega, rfl, M0, Sl.nil, X0, .inl rfl, BW⟩
  case round =>
    obtain ⟨k, E, d, hk, rfl, hM, hE, hX, hEb, hbel⟩ := hrel
    have hsz := hbel.size
    have hMl := hM.lt
    clear X0 M0 BW Z1
    by_cases hlt : k < l.length
    · obtain ⟨b, off, A', c', rfl, hb, x0, x1, hsx⟩ := (hs.below hbel).at_ hlt
      have hxl := lg_le l l[k] (List.getElem_mem hlt)
      have HQ := Lib.hid (sq_take l k hlt)
      have HE := Lib.hid (mg_take l k hlt)
      have hml : (mg (l.take k)).length ≤ 1000 := by rw [mg_len]; have := lg_le_take l k; omega
      have hki : (k : Int) < (l.length : Int) := by omega
      have hss := sq_nn (l.take k)
      generalize l[k] = r at *
      obtain ⟨a, xs⟩ := r
      simp only at x0 x1 hxl HQ HE hsx
      generalize sq (l.take k) = s at *
      generalize mg (l.take k) = ms at *
      have HM : Hid (Calls Try.prog 25 #[.agg #[.int .i64 s, .slice E ms.length d], .agg #[.int .i64 a, .slice A' xs.length c']] wr.drew (FrPost wr.drew (max s a) (jn ms xs))) := by
        have := rmerge_any s a E A' d c' ms xs wr.drew (hE.up (Below.refl _ _).drew) ((hsx.mono hsz).up (Below.refl _ _).drew) hml (by omega)
        rw [show max (max 0 s) a = max s a by omega] at this
        exact this
      obtain ⟨p0, p1⟩ := hM.rb
      have hMd : Hid (Ax wr.drew (w.heap.size + 1) s E ms.length d) := hM
      have hXd : Hid (Ax wr.drew w.heap.size 0 none 0 0) := hX
      have hbd : Hid (Below w.heap.size w wr.drew) := hbel.drew
      go_wp2
      go_region_law ((go_simp; go_at_call 25; refine HM.out.mono ?_; rintro e w2 ⟨A2, c2, rfl, hs2, hb2, hf2⟩; have hM2 := hMd.out.on hb2 hMl; have hf0 := hM2.free 0; have hf1 := hM2.free 1; obtain ⟨q0, q1⟩ := hM2.rb))
      all_goals (
        have M9 : Ax ((w2.setCell ⟨w.heap.size + 1, 0, none⟩ (.int .i64 (max s a))).setCell ⟨w.heap.size + 1, 1, none⟩ (.slice A2 (jn ms xs).length c2)) (w.heap.size + 1) (max s a) A2 (jn ms xs).length c2 := (hM2.set0 _).set1 _ _ _
        have X9 : Ax ((w2.setCell ⟨w.heap.size + 1, 0, none⟩ (.int .i64 (max s a))).setCell ⟨w.heap.size + 1, 1, none⟩ (.slice A2 (jn ms xs).length c2)) w.heap.size 0 none 0 0 := ((hXd.out.on hb2 (by show _ < wr.heap.size; omega)).other (by show w.heap.size ≠ w.heap.size + 1; omega) _).other (by show w.heap.size ≠ w.heap.size + 1; omega) _
        have E9 : Below w.heap.size w ((w2.setCell ⟨w.heap.size + 1, 0, none⟩ (.int .i64 (max s a))).setCell ⟨w.heap.size + 1, 1, none⟩ (.slice A2 (jn ms xs).length c2)) := ((hbd.out.trans (hb2.mono hbd.out.size)).setCell (by show w.heap.size ≤ w.heap.size + 1; omega) _).setCell (by show w.heap.size ≤ w.heap.size + 1; omega) _
        have hf9 : Fr (w.heap.size + 2) A2 (jn ms xs) := fr_le hf2 (by show w.heap.size + 2 ≤ wr.heap.size; omega)
        have S9 : Sl ((w2.setCell ⟨w.heap.size + 1, 0, none⟩ (.int .i64 (max s a))).setCell ⟨w.heap.size + 1, 1, none⟩ (.slice A2 (jn ms xs).length c2)) ((w2.setCell ⟨w.heap.size + 1, 0, none⟩ (.int .i64 (max s a))).setCell ⟨w.heap.size + 1, 1, none⟩ (.slice A2 (jn ms xs).length c2)).heap.size .i64 A2 (jn ms xs) := sl_set hs2 hf9 (by omega)
        generalize ((w2.setCell ⟨w.heap.size + 1, 0, none⟩ (.int .i64 (max s a))).setCell ⟨w.heap.size + 1, 1, none⟩ (.slice A2 (jn ms xs).length c2)) = W9 at *
        go_wp2
        go_roundw
        case rel => exact ⟨k + 1, A2, c2, by omega, by go_num, by rw [HQ.out, ← HE.out]; exact M9, by rw [← HE.out]; exact S9, X9, by rw [← HE.out]; exact hf9, E9⟩
        case measure => simp [intOf]; omega)
    · obtain rfl : k = l.length := by omega
      rw [List.take_length] at hM hE hEb
      obtain ⟨p0, p1⟩ := hM.rb
      obtain ⟨r0, r1⟩ := hX.rb
      have f0 := hX.free 0
      have f1 := hX.free 1
      generalize mg l = zs at *
      generalize sq l = s at *
      clear hs
      go_wp2
      have X9 : Ax ((wr.setCell ⟨w.heap.size, 0, none⟩ (.int .i64 s)).setCell ⟨w.heap.size, 1, none⟩ (.slice E zs.length d)) w.heap.size s E zs.length d := (hX.set0 s).set1 _ _ _
      have E9 : Below w.heap.size w ((wr.setCell ⟨w.heap.size, 0, none⟩ (.int .i64 s)).setCell ⟨w.heap.size, 1, none⟩ (.slice E zs.length d)) := (hbel.setCell (Nat.le_refl _) _).setCell (Nat.le_refl _) _
      have S9 : Sl ((wr.setCell ⟨w.heap.size, 0, none⟩ (.int .i64 s)).setCell ⟨w.heap.size, 1, none⟩ (.slice E zs.length d)) ((wr.setCell ⟨w.heap.size, 0, none⟩ (.int .i64 s)).setCell ⟨w.heap.size, 1, none⟩ (.slice E zs.length d)).heap.size .i64 E zs := sl_set hE hEb (by omega)
      exact bodyPost_ret (run_res20 (B := w.heap.size) rfl X9.rb) rfl ⟨_, _, rfl, S9, E9⟩

end Go.Proofs.Ytiedagbboednkaa
