/-
  The walks of command's reader: fail, number, kind and text. Conditions: the reader is a block of its own, the bytes are bytes, fewer than 2^62.
-/
import Derived.Test.YteajbcngimccmaaDoorCg
import Derived.Test.YteajbcngimccmaaDoorSlices
namespace Go.Proofs.YteajbcngimccmaaDoor
open Go.RowKit

/-- Block R is a reader: the bytes that are left, its error. -/
def Rd (w : World) (R : Nat) (l : List Int) (e : Int) : Prop :=
  ∃ A c, w.heap[R]? = some (.cells #[.slice A l.length c, .int .i64 e] 45 (0, 0)) ∧ Sl w R .u8 A l ∧ l.length ≤ c ∧ l.length ≤ 4611686018427387904 ∧ ∀ x ∈ l, 0 ≤ x ∧ x ≤ 255

/-- Nothing but block R has turned. -/
def Only (R : Nat) (w w' : World) : Prop := Below R w w' ∧ w'.heap.size = w.heap.size ∧ ∀ b, b ≠ R → w'.heap[b]? = w.heap[b]?
theorem Only.refl (R : Nat) (w : World) : Only R w w := ⟨Below.refl _ _, rfl, fun _ _ => rfl⟩
theorem Only.trans {R : Nat} {a b c : World} (h : Only R a b) (h' : Only R b c) : Only R a c := ⟨h.1.trans h'.1, h'.2.1.trans h.2.1, fun q hq => (h'.2.2 q hq).trans (h.2.2 q hq)⟩
theorem only_set (R o : Nat) (w : World) (v : Value) : Only R w (w.setCell ⟨R, o, none⟩ v) := ⟨(Below.refl R w).setCell (Nat.le_refl _) _, by simp, fun b hb => Below.heap_setCell w _ v b hb⟩

theorem Rd.at_ {w : World} {R : Nat} {l : List Int} {e : Int} (h : Rd w R l e) : ∃ A c, w.cell? ⟨R, 0, none⟩ = some (.slice A l.length c) ∧ w.cell? ⟨R, 1, none⟩ = some (.int .i64 e) ∧ w.frozen? ⟨R, 0, none⟩ = false ∧ w.frozen? ⟨R, 1, none⟩ = false ∧ Sl w R .u8 A l ∧ l.length ≤ c := by
  obtain ⟨A, c, hh, hs, hc, _⟩ := h
  exact ⟨A, c, by rw [cell_of_row w R 0 _ 45 _ hh]; rfl, by rw [cell_of_row w R 1 _ 45 _ hh]; rfl, Lib.frozen_of_heap hh _, Lib.frozen_of_heap hh _, hs, hc⟩
theorem Rd.err {w : World} {R : Nat} {l : List Int} {e : Int} (h : Rd w R l e) (f : Int) : Rd (w.setCell ⟨R, 1, none⟩ (.int .i64 f)) R l f := by
  obtain ⟨A, c, hh, hs, hc⟩ := h
  exact ⟨A, c, heap_setCell_same w R 1 _ 45 _ hh, hs.below (only_set R 1 w _).1, hc⟩
theorem Rd.left {w : World} {R : Nat} {l l' : List Int} {e : Int} {A' : Option Addr} {n' c' : Nat} (h : Rd w R l e) (hs : Sl w R .u8 A' l') (hn : n' = l'.length) (hc : l'.length ≤ c') (hl : l'.length ≤ l.length) (hx : ∀ x ∈ l', x ∈ l) : Rd (w.setCell ⟨R, 0, none⟩ (.slice A' n' c')) R l' e := by
  subst hn
  obtain ⟨A, c, hh, _, _, h62, hb⟩ := h
  exact ⟨A', c', heap_setCell_same w R 0 _ 45 _ hh, hs.below (only_set R 0 w _).1, hc, Nat.le_trans hl h62, fun x h => hb x (hx x h)⟩

def FailPost (w : World) (R : Nat) (l : List Int) (e' : Int) (e : Ending) (w' : World) : Prop := e = .returned (.tuple #[]) ∧ Rd w' R l e' ∧ Only R w w'
def RPost (w : World) (R : Nat) (v : Value) (l : List Int) (e' : Int) (e : Ending) (w' : World) : Prop := e = .returned v ∧ Rd w' R l e' ∧ Only R w w'

theorem fail_new (R : Nat) (l : List Int) (f : Int) (w : World) (h : Rd w R l 0) : Calls Tryd.prog 27 #[.pointer (some ⟨R, 0, none⟩), .int .i64 f] w (FailPost w R l f) := by
  have HR := Lib.hid h
  obtain ⟨A, c, c0, c1, f0, f1, _, _⟩ := h.at_
  clear h
  go_enter Tryd.func27, Tryd.ntmps27
  go_wp2
  go_end0
  exact ⟨rfl, HR.out.err f, only_set R 1 w _⟩
theorem fail_old (R : Nat) (l : List Int) (f e : Int) (w : World) (h : Rd w R l e) (he : e ≠ 0) : Calls Tryd.prog 27 #[.pointer (some ⟨R, 0, none⟩), .int .i64 f] w (FailPost w R l e) := by
  have HR := Lib.hid h
  obtain ⟨A, c, c0, c1, f0, f1, _, _⟩ := h.at_
  have hb : (e == 0) = false := by rw [beq_eq_false_iff_ne]; exact he
  clear h
  go_enter Tryd.func27, Tryd.ntmps27
  go_wp2
  go_end0
  exact ⟨rfl, HR.out, Only.refl R w⟩
theorem fail_any (R : Nat) (l : List Int) (f e : Int) (w : World) (h : Rd w R l e) : Calls Tryd.prog 27 #[.pointer (some ⟨R, 0, none⟩), .int .i64 f] w (FailPost w R l (if e = 0 then f else e)) := by
  by_cases he : e = 0
  · subst he; rw [if_pos rfl]; exact fail_new R l f w h
  · rw [if_neg he]; exact fail_old R l f e w h he

/-- One step of a reader: the next number, what is left, the error. -/
def nx (l : List Int) (e : Int) : Int × List Int × Int := if e = 0 then gx l else (0, l, e)

theorem number_late (R : Nat) (l : List Int) (e : Int) (w : World) (h : Rd w R l e) (he : e ≠ 0) : Calls Tryd.prog 33 #[.pointer (some ⟨R, 0, none⟩)] w (RPost w R (.int .i64 0) l e) := by
  have HR := Lib.hid h
  obtain ⟨A, c, c0, c1, f0, f1, _, _⟩ := h.at_
  have hb : (e == 0) = false := by rw [beq_eq_false_iff_ne]; exact he
  clear h he
  go_enter Tryd.func33, Tryd.ntmps33
  go_wp2
  go_ret
  exact ⟨rfl, HR.out, Only.refl R w⟩

theorem number_ok (R : Nat) (l : List Int) (w : World) (h : Rd w R l 0) (n : Int) (k : Nat) (hg : gt 0 0 l = (n, k, 0)) : Calls Tryd.prog 33 #[.pointer (some ⟨R, 0, none⟩)] w (RPost w R (.int .i64 n) (l.drop k) 0) := by
  have HR := Lib.hid h
  obtain ⟨A, c, c0, c1, f0, f1, hs, hc⟩ := h.at_
  obtain ⟨_, _, _, _, _, h62, hx⟩ := h
  have hk := (gt_once hx hg).2.1
  obtain ⟨A', hr1, hr2, hsl⟩ := tail_run hs c k k rfl hk hc
  have HG : ∀ W, Hid (Sl W R .u8 A l → Calls Tryd.prog 38 #[.slice A l.length c] W fun e w' => e = .returned (.tuple #[.int .i64 n, .int .i64 (k : Int), .int .i64 0]) ∧ W = w') := fun W => fun hs => by
    refine (get_any A c l W R h62 hs hx).mono fun e w' ⟨he, hw⟩ => ⟨?_, hw⟩
    rw [he, hg]; rfl
  have HS := Lib.hid hs
  have HSL := Lib.hid hsl
  have HX : Hid (l.length - k = (l.drop k).length ∧ (l.drop k).length ≤ c - k ∧ (l.drop k).length ≤ l.length) := by show _ ∧ _ ∧ _; rw [List.length_drop]; omega
  clear hg hs hsl hx h62
  go_enter Tryd.func33, Tryd.ntmps33
  go_wp2_with (go_at_call 38; refine ((HG _).out HS.out).mono ?_; rintro e w' ⟨rfl, rfl⟩)
  go_ret
  exact ⟨rfl, HR.out.left HSL.out HX.out.1 HX.out.2.1 HX.out.2.2 (fun x hx => List.mem_of_mem_drop hx), only_set R 0 w _⟩

theorem number_bad (R : Nat) (l : List Int) (w : World) (h : Rd w R l 0) (f : Int) (hg : gt 0 0 l = (0, 0, f)) (hf : f ≠ 0) : Calls Tryd.prog 33 #[.pointer (some ⟨R, 0, none⟩)] w (RPost w R (.int .i64 0) l f) := by
  have HR := Lib.hid h
  obtain ⟨A, c, c0, c1, f0, f1, hs, hc⟩ := h.at_
  obtain ⟨_, _, _, _, _, h62, hx⟩ := h
  have HG : ∀ W, Hid (Sl W R .u8 A l → Calls Tryd.prog 38 #[.slice A l.length c] W fun e w' => e = .returned (.tuple #[.int .i64 0, .int .i64 0, .int .i64 f]) ∧ W = w') := fun W => fun hs => by
    refine (get_any A c l W R h62 hs hx).mono fun e w' ⟨he, hw⟩ => ⟨?_, hw⟩
    rw [he, hg]; rfl
  have HS := Lib.hid hs
  have hb : (f == 0) = false := by rw [beq_eq_false_iff_ne]; exact hf
  clear hg hs hx h62 hf
  go_enter Tryd.func33, Tryd.ntmps33
  go_wp2_with (first | (go_at_call 38; refine ((HG _).out HS.out).mono ?_; rintro e w' ⟨rfl, rfl⟩) | (go_at_call 27; refine (fail_new R l f w HR.out).mono ?_; rintro e w2 ⟨rfl, HR2, HO⟩))
  go_ret
  exact ⟨rfl, HR2, HO⟩

theorem gx_nb {l : List Int} {f : Int} (h : gt 0 0 l = (0, 0, f)) (hf : f ≠ 0) : gx l = (0, l, f) := by rw [gx, h, if_neg hf]
theorem gx_ok {l : List Int} {n : Int} {k : Nat} (h : gt 0 0 l = (n, k, 0)) : gx l = (n, l.drop k, 0) := by rw [gx, h, if_pos rfl]

theorem number_any (R : Nat) (l : List Int) (e : Int) (w : World) (h : Rd w R l e) (r : Int × List Int × Int) (hr : nx l e = r) : Calls Tryd.prog 33 #[.pointer (some ⟨R, 0, none⟩)] w (RPost w R (.int .i64 r.1) r.2.1 r.2.2) := by
  subst hr
  by_cases he : e = 0
  · subst he
    rw [nx, if_pos rfl]
    rcases h1 : gt 0 0 l with ⟨n, k, f⟩
    rcases gt_err l 0 0 with h0 | h0 | h0
    · rw [h1] at h0
      obtain rfl : f = 0 := h0
      rw [gx_ok h1]; exact number_ok R l w h n k h1
    · rw [gx_nb h0 (by decide)]; exact number_bad R l w h 2 h0 (by decide)
    · rw [gx_nb h0 (by decide)]; exact number_bad R l w h 3 h0 (by decide)
  · rw [nx, if_neg he]; exact number_late R l e w h he

theorem nx_bd {l : List Int} {e : Int} (hx : ∀ x ∈ l, 0 ≤ x ∧ x ≤ 255) : 0 ≤ (nx l e).1 ∧ (nx l e).1 < 72057594037927936 := by
  rw [nx]
  split
  · by_cases h0 : (gx l).2.2 = 0
    · exact (gx_once hx h0).2
    · rw [gx] at h0 ⊢
      split
      · rename_i h1; rw [if_pos h1] at h0; exact absurd rfl h0
      · exact ⟨Int.le_refl _, (by show (0 : Int) < 72057594037927936; decide)⟩
  · exact ⟨Int.le_refl _, (by show (0 : Int) < 72057594037927936; decide)⟩

/-- The next kind; Nop behind an error. -/
def kst (l : List Int) (e : Int) : Int × List Int × Int := if (nx l e).1 < 8 then nx l e else (0, (nx l e).2.1, if (nx l e).2.2 = 0 then 2 else (nx l e).2.2)

theorem kind_ok (R : Nat) (l : List Int) (e : Int) (w : World) (h : Rd w R l e) (r : Int × List Int × Int) (hr : nx l e = r) (h0 : 0 ≤ r.1) (h8 : r.1 < 8) : Calls Tryd.prog 32 #[.pointer (some ⟨R, 0, none⟩)] w (RPost w R (.int .i64 r.1) r.2.1 r.2.2) := by
  have HN := Lib.hid (number_any R l e w h r hr)
  have HK : ∀ W, Hid (Calls Tryd.prog 21 #[.int .i64 r.1] W fun e w' => e = .returned (.bool true) ∧ W = w') := fun W => kind_yes r.1 W h0 h8
  clear hr
  obtain ⟨n, l', f⟩ := r
  go_enter Tryd.func32, Tryd.ntmps32
  go_wp2_with (first | (go_at_call 33; refine HN.out.mono ?_; rintro e w1 ⟨rfl, HR, HO⟩) | (go_at_call 21; refine (HK _).out.mono ?_; rintro e w2 ⟨rfl, rfl⟩))
  go_ret
  exact ⟨rfl, HR, HO⟩
theorem kind_bad (R : Nat) (l : List Int) (e : Int) (w : World) (h : Rd w R l e) (r : Int × List Int × Int) (hr : nx l e = r) (h8 : 8 ≤ r.1) : Calls Tryd.prog 32 #[.pointer (some ⟨R, 0, none⟩)] w (RPost w R (.int .i64 0) r.2.1 (if r.2.2 = 0 then 2 else r.2.2)) := by
  have HN := Lib.hid (number_any R l e w h r hr)
  have HK : ∀ W, Hid (Calls Tryd.prog 21 #[.int .i64 r.1] W fun e w' => e = .returned (.bool false) ∧ W = w') := fun W => kind_no r.1 W (.inr h8)
  clear hr
  obtain ⟨n, l', f⟩ := r
  have HF : ∀ W, Hid (Rd W R l' f → Calls Tryd.prog 27 #[.pointer (some ⟨R, 0, none⟩), .int .i64 2] W (FailPost W R l' (if f = 0 then 2 else f))) := fun W => fun h => fail_any R l' 2 f W h
  show Calls Tryd.prog 32 #[.pointer (some ⟨R, 0, none⟩)] w (RPost w R (.int .i64 0) l' (if f = 0 then 2 else f))
  generalize (if f = 0 then (2 : Int) else f) = f' at *
  go_enter Tryd.func32, Tryd.ntmps32
  go_wp2_with (first | (go_at_call 33; refine HN.out.mono ?_; rintro e w1 ⟨rfl, HR, HO⟩) | (go_at_call 21; refine (HK _).out.mono ?_; rintro e w2 ⟨rfl, rfl⟩) | (go_at_call 27; refine ((HF _).out HR).mono ?_; rintro e w3 ⟨rfl, HR3, HO3⟩))
  go_ret
  exact ⟨rfl, HR3, HO.trans HO3⟩
theorem kind_any (R : Nat) (l : List Int) (e : Int) (w : World) (h : Rd w R l e) (r : Int × List Int × Int) (hr : kst l e = r) : Calls Tryd.prog 32 #[.pointer (some ⟨R, 0, none⟩)] w (RPost w R (.int .i64 r.1) r.2.1 r.2.2) := by
  subst hr
  have hx : ∀ x ∈ l, 0 ≤ x ∧ x ≤ 255 := by obtain ⟨_, _, _, _, _, _, hx⟩ := h; exact hx
  rw [kst]
  split
  · rename_i h8; exact kind_ok R l e w h _ rfl (nx_bd hx).1 h8
  · rename_i h8; exact kind_bad R l e w h _ rfl (by omega)

/-- The next bytes, as a text. -/
def tst (m : Int) (l : List Int) (e : Int) : List Int × List Int × Int := if (l.length : Int) < m then ([], l, if e = 0 then 3 else e) else (l.take m.toNat, l.drop m.toNat, e)

theorem text_more (R : Nat) (m : Int) (l : List Int) (e : Int) (w : World) (h : Rd w R l e) (hm : (l.length : Int) < m) : Calls Tryd.prog 34 #[.pointer (some ⟨R, 0, none⟩), .int .i64 m] w (RPost w R (.string { data := #[] }) l (if e = 0 then 3 else e)) := by
  have HF : Hid (Calls Tryd.prog 27 #[.pointer (some ⟨R, 0, none⟩), .int .i64 3] w (FailPost w R l (if e = 0 then 3 else e))) := fail_any R l 3 e w h
  generalize (if e = 0 then (3 : Int) else e) = f' at *
  obtain ⟨A, c, c0, c1, f0, f1, hs, hc⟩ := h.at_
  clear h hs
  go_enter Tryd.func34, Tryd.ntmps34
  go_wp2_with (go_at_call 27; refine HF.out.mono ?_; rintro e w3 ⟨rfl, HR3, HO3⟩)
  go_ret
  exact ⟨rfl, HR3, HO3⟩
theorem text_ok (R : Nat) (k : Nat) (l : List Int) (e : Int) (w : World) (h : Rd w R l e) (hm : k ≤ l.length) : Calls Tryd.prog 34 #[.pointer (some ⟨R, 0, none⟩), .int .i64 (k : Int)] w (RPost w R (.string (strOfNums (l.take k))) (l.drop k) e) := by
  have HR := Lib.hid h
  obtain ⟨A, c, c0, c1, f0, f1, hs, hc⟩ := h.at_
  obtain ⟨A', hr1, hr2, hsl⟩ := tail_run hs c k k rfl hm hc
  obtain ⟨A2, ht1, ht2, hsl2⟩ := head_run hs c k k rfl hm hc
  have hlt : decide ((l.length : Int) < (k : Int)) = false := by simp; omega
  have hcv : (convert 25 9 (.slice A2 k c)).run Tryd.prog w = .ok (.string (strOfNums (l.take k))) w := by
    have := str_of hsl2 c w (fun p hp => rfl)
    rw [List.length_take, Nat.min_eq_left hm] at this
    exact this
  have HSL := Lib.hid hsl
  have HX : Hid (l.length - k = (l.drop k).length ∧ (l.drop k).length ≤ c - k ∧ (l.drop k).length ≤ l.length) := by show _ ∧ _ ∧ _; rw [List.length_drop]; omega
  clear h hs hsl hsl2
  go_enter Tryd.func34, Tryd.ntmps34
  go_wp2
  go_ret
  exact ⟨rfl, HR.out.left HSL.out HX.out.1 HX.out.2.1 HX.out.2.2 (fun x hx => List.mem_of_mem_drop hx), only_set R 0 w _⟩
theorem text_any (R : Nat) (m : Int) (l : List Int) (e : Int) (w : World) (h : Rd w R l e) (hm0 : 0 ≤ m) (r : List Int × List Int × Int) (hr : tst m l e = r) : Calls Tryd.prog 34 #[.pointer (some ⟨R, 0, none⟩), .int .i64 m] w (RPost w R (.string (strOfNums r.1)) r.2.1 r.2.2) := by
  subst hr
  rw [tst]
  split
  · rename_i hm; exact text_more R m l e w h hm
  · rename_i hm
    have := text_ok R m.toNat l e w h (by omega)
    rw [Int.toNat_of_nonneg hm0] at this
    exact this

end Go.Proofs.YteajbcngimccmaaDoor
