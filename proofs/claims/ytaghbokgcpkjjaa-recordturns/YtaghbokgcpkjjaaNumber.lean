/-
  The walk of the reader's method 'number': the next number of the bytes, or the first error kept. Conditions: the reader is the call's own, the bytes are bytes, fewer than 2^62.
-/
import Derived.Test.YtaghbokgcpkjjaaSums
import Derived.Deep.QuietTactic
import Derived.BigQuiet
namespace Go.Proofs.Ytaghbokgcpkjjaa
open Go.RowKit

/-- Block R is a reader: its bytes, where it stands, its error. -/
def Rd (w : World) (R : Nat) (A : Option Addr) (n c : Nat) (p e : Int) : Prop :=
  w.cell? ⟨R, 0, none⟩ = some (.slice A n c) ∧ w.cell? ⟨R, 1, none⟩ = some (.int .i64 p) ∧ w.cell? ⟨R, 2, none⟩ = some (.int .i64 e) ∧ w.frozen? ⟨R, 1, none⟩ = false ∧ w.frozen? ⟨R, 2, none⟩ = false ∧ R < w.heap.size

def NumPost (w : World) (R : Nat) (A : Option Addr) (n c : Nat) (r p' e' : Int) (e : Ending) (w' : World) : Prop :=
  e = .returned (.int .i64 r) ∧ Rd w' R A n c p' e' ∧ Below R w w'

theorem below_drewN {B : Nat} {a w : World} (h : Below B a w) (m : Nat) : Below B a (w.drewN m) := ⟨h.os, h.tape, h.output, h.size, h.block⟩

theorem rd_at {w : World} {R : Nat} {A : Option Addr} {n c : Nat} {p e : Int} (h : Rd w R A n c p e) (m : Nat) (q : Int) : Rd ((w.drewN m).setCell ⟨R, 1, none⟩ (.int .i64 q)) R A n c q e := by
  obtain ⟨c0, c1, c2, f1, f2, hlt⟩ := h
  exact ⟨by go_cell, by go_cell, by go_cell, by simpa using f1, by simpa using f2, by simpa using hlt⟩
theorem rd_err {w : World} {R : Nat} {A : Option Addr} {n c : Nat} {p e : Int} (h : Rd w R A n c p e) (m : Nat) (q : Int) : Rd ((w.drewN m).setCell ⟨R, 2, none⟩ (.int .i64 q)) R A n c p q := by
  obtain ⟨c0, c1, c2, f1, f2, hlt⟩ := h
  exact ⟨by go_cell, by go_cell, by go_cell, by simpa using f1, by simpa using f2, by simpa using hlt⟩
theorem rd_below {w : World} {R : Nat} {o : Nat} (m : Nat) (v : Value) : Below R w ((w.drewN m).setCell ⟨R, o, none⟩ v) := (below_drewN (Below.refl R w) m).setCell (Nat.le_refl _) _

theorem number_late (R : Nat) (A : Option Addr) (n c : Nat) (p e most ab : Int) (w : World) (h : Rd w R A n c p e) (he : e ≠ 0) :
    Calls Try.prog 23 #[.pointer (some ⟨R, 0, none⟩), .int .i64 most, .int .i64 ab] w (NumPost w R A n c 0 p e) := by
  have HR := Lib.hid h
  obtain ⟨c0, c1, c2, f1, f2, hlt⟩ := h
  have hb : (e == 0) = false := by rw [beq_eq_false_iff_ne]; exact he
  clear he
  go_enter Try.func23, Try.ntmps23
  go_wp2
  go_ret
  exact ⟨rfl, HR.out, Below.refl _ _⟩

set_option maxHeartbeats 400000 in
theorem number_ok (R : Nat) (A : Option Addr) (c : Nat) (p : Nat) (most ab : Int) (xs : List Int) (w : World) (h : Rd w R A xs.length c p 0) (hl : xs.length ≤ 4611686018427387904) (hp : p ≤ xs.length) (hc : xs.length ≤ c)
    (hs : Sl w R .u8 A xs) (hx : ∀ x ∈ xs, 0 ≤ x ∧ x ≤ 255) (n : Int) (k : Nat) (hg : gt 0 0 (xs.drop p) = (n, k, 0)) (hn : n ≤ most) :
    Calls Try.prog 23 #[.pointer (some ⟨R, 0, none⟩), .int .i64 most, .int .i64 ab] w (NumPost w R A xs.length c n ((p + k : Nat) : Int) 0) := by
  have HR := Lib.hid h
  obtain ⟨c0, c1, c2, f1, f2, hlt⟩ := h
  obtain ⟨A', hr1, hr2, hsl⟩ := tail_run hs c p p rfl hp hc
  have hk := (gt_once (fun x hx' => hx x (List.mem_of_mem_drop hx')) hg).2.1
  rw [List.length_drop] at hk
  have HG : ∀ m, Hid (Calls Try.prog 34 #[.slice A' (xs.length - p) (c - p)] (w.drewN m) fun e w' => e = .returned (.tuple #[.int .i64 n, .int .i64 (k : Int), .int .i64 0]) ∧ w' = w.drewN m) := fun m => by
    have := get_any A' (c - p) (xs.drop p) (w.drewN m) R (by rw [List.length_drop]; omega) (by simpa only [Sl, World.cell?_drewN] using hsl) (fun x hx' => hx x (List.mem_of_mem_drop hx'))
    rw [List.length_drop] at this
    refine this.mono fun e w' ⟨he, hw⟩ => ⟨?_, hw.symm⟩
    rw [he, hg]; rfl
  have hm : decide (most < n) = false := by simp; omega
  have hp62 : (p : Int) + k ≤ 4611686018427387904 := by omega
  clear hg hs hsl hx hn
  go_enter Try.func23, Try.ntmps23
  go_wp2_with fail
  go_quiet ((go_at_call 34; refine Calls.quiet_of_same (HG _).out))
  go_wp2
  go_ret
  have e : ((p + k : Nat) : Int) = (p : Int) + (k : Int) := by omega
  rw [e]
  exact ⟨rfl, rd_at HR.out _ _, rd_below _ _⟩

set_option maxHeartbeats 400000 in
theorem number_above (R : Nat) (A : Option Addr) (c : Nat) (p : Nat) (most ab : Int) (xs : List Int) (w : World) (h : Rd w R A xs.length c p 0) (hl : xs.length ≤ 4611686018427387904) (hp : p ≤ xs.length) (hc : xs.length ≤ c)
    (hs : Sl w R .u8 A xs) (hx : ∀ x ∈ xs, 0 ≤ x ∧ x ≤ 255) (n : Int) (k : Nat) (hg : gt 0 0 (xs.drop p) = (n, k, 0)) (hn : most < n) (hab : ab ≠ 0) :
    Calls Try.prog 23 #[.pointer (some ⟨R, 0, none⟩), .int .i64 most, .int .i64 ab] w (NumPost w R A xs.length c 0 p ab) := by
  have HR := Lib.hid h
  obtain ⟨c0, c1, c2, f1, f2, hlt⟩ := h
  obtain ⟨A', hr1, hr2, hsl⟩ := tail_run hs c p p rfl hp hc
  have hk := (gt_once (fun x hx' => hx x (List.mem_of_mem_drop hx')) hg).2.1
  rw [List.length_drop] at hk
  have HG : ∀ m, Hid (Calls Try.prog 34 #[.slice A' (xs.length - p) (c - p)] (w.drewN m) fun e w' => e = .returned (.tuple #[.int .i64 n, .int .i64 (k : Int), .int .i64 0]) ∧ w' = w.drewN m) := fun m => by
    have := get_any A' (c - p) (xs.drop p) (w.drewN m) R (by rw [List.length_drop]; omega) (by simpa only [Sl, World.cell?_drewN] using hsl) (fun x hx' => hx x (List.mem_of_mem_drop hx'))
    rw [List.length_drop] at this
    refine this.mono fun e w' ⟨he, hw⟩ => ⟨?_, hw.symm⟩
    rw [he, hg]; rfl
  have hb : (ab == 0) = false := by rw [beq_eq_false_iff_ne]; exact hab
  clear hab
  have hp62 : (p : Int) + k ≤ 4611686018427387904 := by omega
  clear hg hs hsl hx
  go_enter Try.func23, Try.ntmps23
  go_wp2_with fail
  go_quiet ((go_at_call 34; refine Calls.quiet_of_same (HG _).out))
  go_wp2
  go_ret
  exact ⟨rfl, rd_err HR.out _ _, rd_below _ _⟩

set_option maxHeartbeats 400000 in
theorem number_bad (R : Nat) (A : Option Addr) (c : Nat) (p : Nat) (most ab : Int) (xs : List Int) (w : World) (h : Rd w R A xs.length c p 0) (hl : xs.length ≤ 4611686018427387904) (hp : p ≤ xs.length) (hc : xs.length ≤ c)
    (hs : Sl w R .u8 A xs) (hx : ∀ x ∈ xs, 0 ≤ x ∧ x ≤ 255) (f : Int) (hg : gt 0 0 (xs.drop p) = (0, 0, f)) (hf : f ≠ 0) :
    Calls Try.prog 23 #[.pointer (some ⟨R, 0, none⟩), .int .i64 most, .int .i64 ab] w (NumPost w R A xs.length c 0 p f) := by
  have HR := Lib.hid h
  obtain ⟨c0, c1, c2, f1, f2, hlt⟩ := h
  obtain ⟨A', hr1, hr2, hsl⟩ := tail_run hs c p p rfl hp hc
  have HG : ∀ m, Hid (Calls Try.prog 34 #[.slice A' (xs.length - p) (c - p)] (w.drewN m) fun e w' => e = .returned (.tuple #[.int .i64 0, .int .i64 0, .int .i64 f]) ∧ w' = w.drewN m) := fun m => by
    have := get_any A' (c - p) (xs.drop p) (w.drewN m) R (by rw [List.length_drop]; omega) (by simpa only [Sl, World.cell?_drewN] using hsl) (fun x hx' => hx x (List.mem_of_mem_drop hx'))
    rw [List.length_drop] at this
    refine this.mono fun e w' ⟨he, hw⟩ => ⟨?_, hw.symm⟩
    rw [he, hg]; rfl
  have hb : (f == 0) = false := by rw [beq_eq_false_iff_ne]; exact hf
  clear hf
  clear hg hs hsl hx
  go_enter Try.func23, Try.ntmps23
  go_wp2_with fail
  go_quiet ((go_at_call 34; refine Calls.quiet_of_same (HG _).out))
  go_wp2
  go_ret
  exact ⟨rfl, rd_err HR.out _ _, rd_below _ _⟩

end Go.Proofs.Ytaghbokgcpkjjaa
