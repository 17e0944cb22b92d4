/-
  What stage 10 reckons with, as plain functions: which reports count, which has the greatest vote, what all agree on, what is to be done. No program's function is walked here. No conditions.
-/
import Derived.Test.YtgmfjoegfbaebaaInMem
namespace Go.Proofs.Ytgmfjoegfbaebaa.Rg
open Go.RowKit In
set_option linter.unusedVariables false

/-- A report: whose it is, what it tells, and where its deps lie. -/
structure Rp where
  f : Int
  r : Rd
  A : Option Addr
  c : Nat

/-- As how many replicas n counts. -/
def am (n : Int) : Nat := if n < 1 then 1 else if 7 < n then 7 else n.toNat
theorem am_pos (n : Int) : 1 ≤ am n := by unfold am; split; · omega
                                          split <;> omega
theorem am_le (n : Int) : am n ≤ 7 := by unfold am; split; · omega
                                         split <;> omega
theorem am_in {n : Int} (h1 : 1 ≤ n) (h7 : n ≤ 7) : (am n : Int) = n := by unfold am; rw [if_neg (by omega), if_neg (by omega)]; omega

/-- The first report of replica i + 1. -/
def fd (l : List Rp) (i : Nat) : Option Rp := l.find? fun x => decide (x.f = (i : Int) + 1)
/-- The reports that count. -/
def ct (l : List Rp) (n : Nat) : List Rp := (List.range n).filterMap (fd l)
theorem ct_succ (l : List Rp) (n : Nat) : ct l (n + 1) = ct l n ++ (fd l n).toList := by
  unfold ct
  rw [List.range_succ, List.filterMap_append]
  cases h : fd l n <;> simp [h]
theorem ct_len (l : List Rp) (n : Nat) : (ct l n).length ≤ n := by
  refine Nat.le_trans (List.length_filterMap_le _ _) ?_
  simp
theorem fd_mem {l : List Rp} {i : Nat} {x : Rp} (h : fd l i = some x) : x ∈ l := List.mem_of_find?_eq_some h
theorem ct_mem {l : List Rp} {n : Nat} {x : Rp} (h : x ∈ ct l n) : x ∈ l := by
  obtain ⟨i, _, hi⟩ := List.mem_filterMap.1 h
  exact fd_mem hi

/-- The same, each with the word that it is one of l. -/
abbrev Of (l : List Rp) := { x : Rp // x ∈ l }
def fda (l : List Rp) (i : Nat) : Option (Of l) := l.attach.find? fun x => decide (x.1.f = (i : Int) + 1)
def cta (l : List Rp) (n : Nat) : List (Of l) := (List.range n).filterMap (fda l)
theorem fda_val (l : List Rp) (i : Nat) : (fda l i).map (·.1) = fd l i := by
  have h : fd l i = (l.attach.map (·.1)).find? fun x => decide (x.f = (i : Int) + 1) := by rw [List.attach_map_subtype_val]; rfl
  rw [h, List.find?_map]
  rfl
theorem cta_val (l : List Rp) (n : Nat) : (cta l n).map (·.1) = ct l n := by
  unfold cta ct
  rw [List.map_filterMap]
  congr 1
  funext i
  exact fda_val l i
theorem cta_succ (l : List Rp) (n : Nat) : cta l (n + 1) = cta l n ++ (fda l n).toList := by
  unfold cta
  rw [List.range_succ, List.filterMap_append]
  cases h : fda l n <;> simp [h]
theorem cta_len (l : List Rp) (n : Nat) : (cta l n).length ≤ n := by
  refine Nat.le_trans (List.length_filterMap_le _ _) ?_
  simp

/-- What a search for a replica's first report answers. -/
def Fnd (l : List Rp) (v : Int) (z : Int) : Prop := (z = -1 ∧ ∀ j, (h : j < l.length) → l[j].f ≠ v) ∨ ∃ k : Nat, z = (k : Int) ∧ ∃ h : k < l.length, l[k].f = v ∧ ∀ j, (hj : j < k) → l[j].f ≠ v
theorem fnd_none {l : List Rp} {i : Nat} (h : ∀ j, (h : j < l.length) → l[j].f ≠ (i : Int) + 1) : fda l i = none := by
  have : fd l i = none := by
    unfold fd
    rw [List.find?_eq_none]
    intro x hx
    obtain ⟨j, hj, rfl⟩ := List.mem_iff_getElem.1 hx
    simpa using h j hj
  rw [← fda_val] at this
  simpa using this
theorem fd_at {l : List Rp} {i k : Nat} (hk : k < l.length) (h : l[k].f = (i : Int) + 1) (hf : ∀ j, (hj : j < k) → l[j].f ≠ (i : Int) + 1) : fd l i = some l[k] := by
  unfold fd
  rw [List.find?_eq_some_iff_getElem]
  exact ⟨by simpa using h, k, hk, rfl, fun j hj => by simpa using hf j hj⟩
theorem fnd_some {l : List Rp} {i k : Nat} (hk : k < l.length) (h : l[k].f = (i : Int) + 1) (hf : ∀ j, (hj : j < k) → l[j].f ≠ (i : Int) + 1) : fda l i = some ⟨l[k], List.getElem_mem hk⟩ := by
  have e := fda_val l i
  rw [fd_at hk h hf] at e
  obtain ⟨y, hy, e⟩ := Option.map_eq_some_iff.1 e
  rw [hy]
  congr 1
  exact Subtype.ext e

/-- How the votes of two compare. -/
def cv2 (x y : Rp) : Int := Ba.cm x.r.vn x.r.vb y.r.vn y.r.vb
/-- Of those of a state one with the greatest vote, the first one of several. -/
def gs (s : Int) : Option Rp → Rp → Option Rp
  | none, x => if x.r.st = s then some x else none
  | some y, x => if x.r.st = s ∧ 0 < cv2 x y then some x else some y
def gt (s : Int) (l : List Rp) : Option Rp := l.foldl (gs s) none
theorem gt_snoc (s : Int) (l : List Rp) (x : Rp) : gt s (l ++ [x]) = gs s (gt s l) x := by simp [gt]

/-- Is it first, of that owner? -/
def fi (o : Int) (x : Rd) : Bool := (x.st == 1) && ((x.vn == 0) && (x.vb == o))
/-- Are two commands the same? two records, by their commands and their attributes? -/
def sc (a b : Rd) : Bool := (a.u == b.u) && (a.s == b.s) && (a.k == b.k) && (a.h == b.h) && (a.n == b.n) && decide (a.t = b.t)
def sm (a b : Rd) : Bool := sc a b && At.sa a.q a.xs b.q b.xs
/-- What all agree on. -/
def ag (o : Int) : List Rp → Option Rp
  | [] => none
  | x :: t => if fi o x.r = true ∧ ∀ y ∈ t, fi o y.r = true ∧ sm y.r x.r = true then some x else none

/-- The first one that is committed. -/
def dn (l : List Rp) : Option Rp := l.find? fun x => decide (x.r.st = 3)
/-- What was accepted and is to be taken. -/
def tk (l : List Rp) : Option Rp := match gt 2 l with
  | none => none
  | some a => match gt 1 l with
    | none => some a
    | some p => if 0 < cv2 p a then none else some a

/-- A choice. -/
structure Ch where
  k : Int
  u : Int
  s : Int
  d : Int
  h : Int
  n : Int
  t : ByteArray
  q : Int
  xs : List Int
def c0 : Ch := ⟨0, 0, 0, 0, 0, 0, ⟨#[]⟩, 0, []⟩
def c4 : Ch := ⟨4, 0, 0, 0, 0, 0, ⟨#[]⟩, 0, []⟩
def cw (k : Int) (r : Rd) : Ch := ⟨k, r.u, r.s, r.k, r.h, r.n, r.t, r.q, r.xs⟩
def c3 (r : Rd) : Ch := ⟨3, r.u, r.s, r.k, r.h, r.n, r.t, 0, []⟩
def co (f : Rd → Ch) (o : Option Rp) : Ch := match o with | some x => f x.r | none => c0

/-- What is to be done: of those that count, among n, of an owner. -/
def dc (o : Int) (n : Nat) (l : List Rp) : Ch :=
  match dn l with
  | some x => cw 1 x.r
  | none => if l.length < n / 2 + 1 then c0 else
    match tk l with
    | some x => cw 2 x.r
    | none => match ag o l with
      | some x => cw 2 x.r
      | none => match gt 1 l with
        | some x => c3 x.r
        | none => c4
def fs (o : Int) (n : Nat) (l : List Rp) : Bool := (ag o l).isSome && decide (l.length = n)

def zr : Rd := ⟨0, 0, 0, 0, 0, 0, 0, 0, 0, 0, ⟨#[]⟩, 0, []⟩
def z0 : Rp := ⟨0, zr, none, 0⟩

end Go.Proofs.Ytgmfjoegfbaebaa.Rg
