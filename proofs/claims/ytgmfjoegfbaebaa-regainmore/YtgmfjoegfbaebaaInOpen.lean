/-
  How a record and a step that came in are read. No program's function is walked here. No conditions.
-/
import Derived.Test.YtgmfjoegfbaebaaInMem
import Derived.Lib.SmallJoins
import Derived.Deep.SlicePairs
import Derived.Deep.Slices
import Derived.OpenShut
import Derived.ShutString
import Derived.ChangeOld
namespace Go.Proofs.Ytgmfjoegfbaebaa.In
open Go.RowKit Go.ChangeShapes Go.WideShapes Go.ChangeAt Go.Joins Go.Deep
set_option linter.unusedVariables false

theorem open_deps {H : Type} {enc : TypeId × Value → H} {W : World} {fuel : Nat} {v : Value} {x : DataW H × List MemPlace} (h : DataW.trod enc Try.prog W 0 (fun _ => true) true fuel 28 [v] = some x) :
    ∃ (A : Option Addr) (c : Nat) (xs : List Int), v = .slice A xs.length c ∧ At.Sl W W.heap.size .i64 A xs := by
  rcases open_ints Try.underlying28 Try.underlying3 (by kernel_rfl) h with ⟨hcs, _⟩ | ⟨a, l, c, zs, hcs, _, hl, hm, hz, _, hcell, hwz⟩
  · simp at hcs
    subst hcs
    exact ⟨none, 0, [], rfl, At.Sl.nil⟩
  · simp at hcs
    subst hcs
    have hz' : zs.length = c := by simpa using hz
    have e : (zs.take l).length = l := by simp only [List.length_take]; omega
    exact ⟨some a, c, zs.take l, by rw [e], At.sl_of_cells hl hz' hcell⟩
theorem bal_of {H : Type} {enc : TypeId × Value → H} {W : World} {fuel : Nat} {c0 c1 : Value} {x : DataW H × List MemPlace} (hf : DataW.trod enc Try.prog W 0 (fun _ => true) true fuel 40 [c0, c1] = some x) :
    ∃ x y : Int, c0 = .int .i64 x ∧ c1 = .int .i64 y := by
  obtain ⟨ys, m, _, _, _, hlen, hf⟩ := DataW.trod_struct Try.underlying40 hf
  have k3 : Try.prog.cellsOf 3 = 1 := by kernel_rfl
  have hl : ys.length = 2 := hlen
  have h0 : DataW.trod enc Try.prog W 0 (fun _ => true) true m 3 ((([c0, c1]).drop 0).take (Try.prog.cellsOf 3)) = ys[0]? := hf 0 _ rfl
  rw [List.getElem?_eq_getElem (by omega), k3] at h0
  have h1 : DataW.trod enc Try.prog W 0 (fun _ => true) true m 3 ((([c0, c1]).drop 1).take (Try.prog.cellsOf 3)) = ys[1]? := hf 1 _ rfl
  rw [List.getElem?_eq_getElem (by omega), k3] at h1
  obtain ⟨x, ec0, _⟩ := DataW.trod_int Try.underlying3 h0
  simp at ec0
  obtain ⟨y, ec1, _⟩ := DataW.trod_int Try.underlying3 h1
  simp at ec1
  exact ⟨x, y, ec0, ec1⟩

theorem cmd_of {H : Type} {enc : TypeId × Value → H} {W : World} {fuel : Nat} {c0 c1 c2 c3 c4 c5 : Value} {x : DataW H × List MemPlace} (hf : DataW.trod enc Try.prog W 0 (fun _ => true) true fuel 27 [c0, c1, c2, c3, c4, c5] = some x) :
    ∃ (u s k h n : Int) (t : ByteArray), c0 = .int .i64 u ∧ c1 = .int .i64 s ∧ c2 = .int .i64 k ∧ c3 = .int .i64 h ∧ c4 = .int .i64 n ∧ c5 = .string t := by
  obtain ⟨ys, m, _, _, _, hlen, hf⟩ := DataW.trod_struct Try.underlying27 hf
  have k3 : Try.prog.cellsOf 3 = 1 := by kernel_rfl
  have k9 : Try.prog.cellsOf 9 = 1 := by kernel_rfl
  have hl : ys.length = 6 := hlen
  have h0 : DataW.trod enc Try.prog W 0 (fun _ => true) true m 3 ((([c0, c1, c2, c3, c4, c5]).drop 0).take (Try.prog.cellsOf 3)) = ys[0]? := hf 0 _ rfl
  rw [List.getElem?_eq_getElem (by omega), k3] at h0
  have h1 : DataW.trod enc Try.prog W 0 (fun _ => true) true m 3 ((([c0, c1, c2, c3, c4, c5]).drop 1).take (Try.prog.cellsOf 3)) = ys[1]? := hf 1 _ rfl
  rw [List.getElem?_eq_getElem (by omega), k3] at h1
  have h2 : DataW.trod enc Try.prog W 0 (fun _ => true) true m 3 ((([c0, c1, c2, c3, c4, c5]).drop 2).take (Try.prog.cellsOf 3)) = ys[2]? := hf 2 _ rfl
  rw [List.getElem?_eq_getElem (by omega), k3] at h2
  have h3 : DataW.trod enc Try.prog W 0 (fun _ => true) true m 3 ((([c0, c1, c2, c3, c4, c5]).drop 3).take (Try.prog.cellsOf 3)) = ys[3]? := hf 3 _ rfl
  rw [List.getElem?_eq_getElem (by omega), k3] at h3
  have h4 : DataW.trod enc Try.prog W 0 (fun _ => true) true m 3 ((([c0, c1, c2, c3, c4, c5]).drop 4).take (Try.prog.cellsOf 3)) = ys[4]? := hf 4 _ rfl
  rw [List.getElem?_eq_getElem (by omega), k3] at h4
  have h5 : DataW.trod enc Try.prog W 0 (fun _ => true) true m 9 ((([c0, c1, c2, c3, c4, c5]).drop 5).take (Try.prog.cellsOf 9)) = ys[5]? := hf 5 _ rfl
  rw [List.getElem?_eq_getElem (by omega), k9] at h5
  obtain ⟨u, ec0, _⟩ := DataW.trod_int Try.underlying3 h0
  simp at ec0
  obtain ⟨s, ec1, _⟩ := DataW.trod_int Try.underlying3 h1
  simp at ec1
  obtain ⟨k, ec2, _⟩ := DataW.trod_int Try.underlying3 h2
  simp at ec2
  obtain ⟨h, ec3, _⟩ := DataW.trod_int Try.underlying3 h3
  simp at ec3
  obtain ⟨n, ec4, _⟩ := DataW.trod_int Try.underlying3 h4
  simp at ec4
  obtain ⟨t, ec5, _⟩ := DataW.trod_string Try.underlying9 h5
  simp at ec5
  exact ⟨u, s, k, h, n, t, ec0, ec1, ec2, ec3, ec4, ec5⟩

theorem att_of {H : Type} {enc : TypeId × Value → H} {W : World} {fuel : Nat} {c0 c1 : Value} {x : DataW H × List MemPlace} (hf : DataW.trod enc Try.prog W 0 (fun _ => true) true fuel 30 [c0, c1] = some x) :
    ∃ (q : Int) (A : Option Addr) (c : Nat) (xs : List Int), c0 = .int .i64 q ∧ c1 = .slice A xs.length c ∧ At.Sl W W.heap.size .i64 A xs := by
  obtain ⟨ys, m, _, _, _, hlen, hf⟩ := DataW.trod_struct Try.underlying30 hf
  have k3 : Try.prog.cellsOf 3 = 1 := by kernel_rfl
  have ktInts : Try.prog.cellsOf 28 = 1 := by kernel_rfl
  have hl : ys.length = 2 := hlen
  have h0 : DataW.trod enc Try.prog W 0 (fun _ => true) true m 3 ((([c0, c1]).drop 0).take (Try.prog.cellsOf 3)) = ys[0]? := hf 0 _ rfl
  rw [List.getElem?_eq_getElem (by omega), k3] at h0
  have h1 : DataW.trod enc Try.prog W 0 (fun _ => true) true m 28 ((([c0, c1]).drop 1).take (Try.prog.cellsOf 28)) = ys[1]? := hf 1 _ rfl
  rw [List.getElem?_eq_getElem (by omega), ktInts] at h1
  obtain ⟨q, ec0, _⟩ := DataW.trod_int Try.underlying3 h0
  simp at ec0
  obtain ⟨A, cc, xs, ec1, hS⟩ := open_deps (v := c1) (by simpa using h1)
  exact ⟨q, A, cc, xs, ec0, ec1, hS⟩

theorem rec_of {H : Type} {enc : TypeId × Value → H} {W : World} {fuel : Nat} {c0 c1 c2 c3 c4 c5 c6 c7 c8 c9 c10 c11 c12 : Value} {x : DataW H × List MemPlace} (hf : DataW.trod enc Try.prog W 0 (fun _ => true) true fuel 42 [c0, c1, c2, c3, c4, c5, c6, c7, c8, c9, c10, c11, c12] = some x) :
    ∃ (r : Rd) (A : Option Addr) (c : Nat), [c0, c1, c2, c3, c4, c5, c6, c7, c8, c9, c10, c11, c12] = (rcs r A c).toList ∧ At.Sl W W.heap.size .i64 A r.xs := by
  obtain ⟨ys, m, _, _, _, hlen, hf⟩ := DataW.trod_struct Try.underlying42 hf
  have k3 : Try.prog.cellsOf 3 = 1 := by kernel_rfl
  have ktBal : Try.prog.cellsOf 40 = 2 := by kernel_rfl
  have ktCmd : Try.prog.cellsOf 27 = 6 := by kernel_rfl
  have ktAtt : Try.prog.cellsOf 30 = 2 := by kernel_rfl
  have hl : ys.length = 5 := hlen
  have h0 : DataW.trod enc Try.prog W 0 (fun _ => true) true m 3 ((([c0, c1, c2, c3, c4, c5, c6, c7, c8, c9, c10, c11, c12]).drop 0).take (Try.prog.cellsOf 3)) = ys[0]? := hf 0 _ rfl
  rw [List.getElem?_eq_getElem (by omega), k3] at h0
  have h1 : DataW.trod enc Try.prog W 0 (fun _ => true) true m 40 ((([c0, c1, c2, c3, c4, c5, c6, c7, c8, c9, c10, c11, c12]).drop 1).take (Try.prog.cellsOf 40)) = ys[1]? := hf 1 _ rfl
  rw [List.getElem?_eq_getElem (by omega), ktBal] at h1
  have h2 : DataW.trod enc Try.prog W 0 (fun _ => true) true m 40 ((([c0, c1, c2, c3, c4, c5, c6, c7, c8, c9, c10, c11, c12]).drop 3).take (Try.prog.cellsOf 40)) = ys[2]? := hf 2 _ rfl
  rw [List.getElem?_eq_getElem (by omega), ktBal] at h2
  have h3 : DataW.trod enc Try.prog W 0 (fun _ => true) true m 27 ((([c0, c1, c2, c3, c4, c5, c6, c7, c8, c9, c10, c11, c12]).drop 5).take (Try.prog.cellsOf 27)) = ys[3]? := hf 3 _ rfl
  rw [List.getElem?_eq_getElem (by omega), ktCmd] at h3
  have h4 : DataW.trod enc Try.prog W 0 (fun _ => true) true m 30 ((([c0, c1, c2, c3, c4, c5, c6, c7, c8, c9, c10, c11, c12]).drop 11).take (Try.prog.cellsOf 30)) = ys[4]? := hf 4 _ rfl
  rw [List.getElem?_eq_getElem (by omega), ktAtt] at h4
  obtain ⟨st, ec0, _⟩ := DataW.trod_int Try.underlying3 h0
  simp at ec0
  obtain ⟨pn, pb, ec1, ec2⟩ := bal_of (c0 := c1) (c1 := c2) (by simpa using h1)
  obtain ⟨vn, vb, ec3, ec4⟩ := bal_of (c0 := c3) (c1 := c4) (by simpa using h2)
  obtain ⟨u, s, k, h, n, t, ec5, ec6, ec7, ec8, ec9, ec10⟩ := cmd_of (c0 := c5) (c1 := c6) (c2 := c7) (c3 := c8) (c4 := c9) (c5 := c10) (by simpa using h3)
  obtain ⟨q, A, cc, xs, ec11, ec12, hS⟩ := att_of (c0 := c11) (c1 := c12) (by simpa using h4)
  subst ec0 ec1 ec2 ec3 ec4 ec5 ec6 ec7 ec8 ec9 ec10 ec11 ec12
  exact ⟨⟨st, pn, pb, vn, vb, u, s, k, h, n, t, q, xs⟩, A, cc, rfl, hS⟩

theorem array13 {α : Type} {cs : Array α} (h : cs.size = 13) : ∃ c0 c1 c2 c3 c4 c5 c6 c7 c8 c9 c10 c11 c12, cs = #[c0, c1, c2, c3, c4, c5, c6, c7, c8, c9, c10, c11, c12] := by
  obtain ⟨l⟩ := cs
  match l, h with
  | [c0, c1, c2, c3, c4, c5, c6, c7, c8, c9, c10, c11, c12], _ => exact ⟨c0, c1, c2, c3, c4, c5, c6, c7, c8, c9, c10, c11, c12, rfl⟩
theorem list13 {α : Type} {l : List α} (h : l.length = 13) : ∃ c0 c1 c2 c3 c4 c5 c6 c7 c8 c9 c10 c11 c12, l = [c0, c1, c2, c3, c4, c5, c6, c7, c8, c9, c10, c11, c12] := by
  match l, h with
  | [c0, c1, c2, c3, c4, c5, c6, c7, c8, c9, c10, c11, c12], _ => exact ⟨c0, c1, c2, c3, c4, c5, c6, c7, c8, c9, c10, c11, c12, rfl⟩
theorem array11 {α : Type} {cs : Array α} (h : cs.size = 11) : ∃ c0 c1 c2 c3 c4 c5 c6 c7 c8 c9 c10, cs = #[c0, c1, c2, c3, c4, c5, c6, c7, c8, c9, c10] := by
  obtain ⟨l⟩ := cs
  match l, h with
  | [c0, c1, c2, c3, c4, c5, c6, c7, c8, c9, c10], _ => exact ⟨c0, c1, c2, c3, c4, c5, c6, c7, c8, c9, c10, rfl⟩
theorem list11 {α : Type} {l : List α} (h : l.length = 11) : ∃ c0 c1 c2 c3 c4 c5 c6 c7 c8 c9 c10, l = [c0, c1, c2, c3, c4, c5, c6, c7, c8, c9, c10] := by
  match l, h with
  | [c0, c1, c2, c3, c4, c5, c6, c7, c8, c9, c10], _ => exact ⟨c0, c1, c2, c3, c4, c5, c6, c7, c8, c9, c10, rfl⟩
theorem open_rec {H : Type} {enc : TypeId × Value → H} {W : World} {r0 : Reach} {b0 : Nat} {v : Value} {d : DataW H} {p : List MemPlace} (hv : Value.okWide Try.prog W r0 b0 42 v) (h : DataW.Trod enc Try.prog W 0 (fun _ => true) true 42 v d p) :
    ∃ (r : Rd) (A : Option Addr) (c : Nat), v = rv r A c ∧ At.Sl W W.heap.size .i64 A r.xs := by
  obtain ⟨cs, rfl, hsz⟩ := okWide_struct Try.underlying42 hv
  obtain ⟨c0, c1, c2, c3, c4, c5, c6, c7, c8, c9, c10, c11, c12, rfl⟩ := array13 (hsz.trans (by kernel_rfl))
  obtain ⟨fuel, hf⟩ := h
  have hf' : DataW.trod enc Try.prog W 0 (fun _ => true) true fuel 42 [c0, c1, c2, c3, c4, c5, c6, c7, c8, c9, c10, c11, c12] = some (d, p) := by simpa [Value.cells] using hf
  obtain ⟨r, A, c, e, hs⟩ := rec_of hf'
  simp only [List.cons.injEq, and_true] at e
  obtain ⟨rfl, rfl, rfl, rfl, rfl, rfl, rfl, rfl, rfl, rfl, rfl, rfl, rfl⟩ := e
  exact ⟨r, A, c, rfl, hs⟩
end Go.Proofs.Ytgmfjoegfbaebaa.In
