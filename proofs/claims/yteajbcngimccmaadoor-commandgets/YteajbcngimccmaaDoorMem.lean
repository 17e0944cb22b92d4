/-
  Words for memory that the walks of package vlq use: a slice of integers that reads as a list, and a row of the call's own. No program's function is walked here. No conditions.
-/
import Derived.Test.YteajbcngimccmaaDoorRows
import Derived.Test.YteajbcngimccmaaDoorPlain
import Derived.WalkKit
import Derived.WalkSpells
import Derived.WalkLawsBesides
import Derived.ProofKit
import Derived.Lib.Hide
import Derived.Laws.BytesArg
namespace Go.Proofs.YteajbcngimccmaaDoor
open Go.RowKit

/-- The slice at the address A reads as the integers xs, all of which lie below block B. -/
def Sl (w : World) (B : Nat) (k : IntKind) (A : Option Addr) (xs : List Int) : Prop :=
  xs = [] ∨ ∃ b off, A = some ⟨b, off, none⟩ ∧ b < B ∧ ∀ j x, xs[j]? = some x → w.cell? ⟨b, off + j, none⟩ = some (.int k x)

theorem Sl.nil {w : World} {B : Nat} {k : IntKind} {A : Option Addr} : Sl w B k A [] := .inl rfl

theorem Sl.at_ {w : World} {B : Nat} {k : IntKind} {A : Option Addr} {xs : List Int} (h : Sl w B k A xs) {j : Nat} (hj : j < xs.length) :
    ∃ b off, A = some ⟨b, off, none⟩ ∧ b < B ∧ w.cell? ⟨b, off + j, none⟩ = some (.int k (xs.getD j 0)) := by
  rcases h with rfl | ⟨b, off, hA, hb, hc⟩
  · simp at hj
  · exact ⟨b, off, hA, hb, by simpa [List.getD, List.getElem?_eq_getElem hj] using hc j xs[j] (List.getElem?_eq_getElem hj)⟩

theorem Sl.below {w w' : World} {B : Nat} {k : IntKind} {A : Option Addr} {xs : List Int} (h : Sl w B k A xs) (hb : Below B w w') : Sl w' B k A xs := by
  rcases h with rfl | ⟨b, off, hA, hlt, hc⟩
  · exact .inl rfl
  · exact .inr ⟨b, off, hA, hlt, fun j x hx => (hb.cell (p := ⟨b, off + j, none⟩) hlt).trans (hc j x hx)⟩

theorem Sl.mono {w : World} {B B' : Nat} {k : IntKind} {A : Option Addr} {xs : List Int} (h : Sl w B k A xs) (hB : B ≤ B') : Sl w B' k A xs := by
  rcases h with rfl | ⟨b, off, hA, hlt, hc⟩
  · exact .inl rfl
  · exact .inr ⟨b, off, hA, by omega, hc⟩

theorem Sl.take {w : World} {B : Nat} {k : IntKind} {A : Option Addr} {xs : List Int} (h : Sl w B k A xs) (n : Nat) : Sl w B k A (xs.take n) := by
  rcases h with rfl | ⟨b, off, hA, hlt, hc⟩
  · exact .inl (by simp)
  · exact .inr ⟨b, off, hA, hlt, fun j x hx => hc j x (by rw [List.getElem?_take] at hx; split at hx <;> simp_all)⟩

theorem Sl.drop {w : World} {B b off : Nat} {k : IntKind} {xs : List Int} (h : Sl w B k (some ⟨b, off, none⟩) xs) (n : Nat) : Sl w B k (some ⟨b, off + n, none⟩) (xs.drop n) := by
  rcases h with rfl | ⟨b', off', hA, hlt, hc⟩
  · exact .inl (by simp)
  · obtain ⟨rfl, rfl⟩ : b = b' ∧ off = off' := by simpa using hA
    exact .inr ⟨b, off + n, rfl, hlt, fun j x hx => by rw [Nat.add_assoc]; exact hc (n + j) x (by rw [List.getElem?_drop] at hx; exact hx)⟩

/-- A row of the call's own is a slice that reads as its list. -/
theorem own_slice {w : World} {base : Nat} {e : TypeId} {k : IntKind} {v : Value} {xs : List Int} (h : w.ownsRow base e 1 v xs.length (xs.map (Value.int k))) :
    ∃ A c, v = .slice A xs.length c ∧ Sl w w.heap.size k A xs ∧ xs.length ≤ c := by
  rcases h.2 with ⟨rfl, h0⟩ | ⟨g, cap, cur, rfl, hg, hh, hnc, hcp, hcs, htake⟩
  · exact ⟨none, 0, by rw [h0], .inl (List.length_eq_zero_iff.1 h0), by omega⟩
  · refine ⟨_, cap, rfl, .inr ⟨g, 0, rfl, lt_of_block hh, fun j x hx => ?_⟩, hnc⟩
    have hj : j < xs.length := (List.getElem?_eq_some_iff.1 hx).1
    rw [Nat.zero_add, h.cellAt j (by omega)]
    simp [hx]

/-- The text that bytes are. -/
theorem str_of {w : World} {B : Nat} {A : Option Addr} {xs : List Int} (h : Sl w B .u8 A xs) (c : Nat) (w' : World) (hw : ∀ p : Addr, p.block < B → w'.cell? p = w.cell? p) :
    (convert 25 9 (.slice A xs.length c)).run Tryd.prog w' = .ok (.string (strOfNums xs)) w' := by
  rcases h with rfl | ⟨b, off, rfl, hlt, hc⟩
  · rcases A with _ | a
    · exact run_convert_bytes_nil w' 25 5 Tryd.underlying25 Tryd.underlying5 _ c 9 Tryd.underlying9
    · obtain ⟨b, off, sp⟩ := a
      rw [run_convert_bytes_string w' 25 9 5 _ _ c Tryd.underlying25 Tryd.underlying5 Tryd.underlying9]
      have hl : (loadCells ⟨b, off, sp⟩ 0).run Tryd.prog w' = .ok (([] : List Int).map (Value.int .u8)).toArray w' := by
        simpa using run_loadCells_list (P := Tryd.prog) w' ⟨b, off, sp⟩ [] (fun j v hj => by simp at hj)
      have := run_bytesToString (P := Tryd.prog) w' ⟨b, off, sp⟩ 0 c [] hl
      rw [show ([] : List Int).length = 0 from rfl, this]
      rfl
  · refine run_convert_bytes_arg w' 25 5 Tryd.underlying25 Tryd.underlying5 b off xs.length c xs rfl (fun i hi => ?_) 9 Tryd.underlying9
    rw [hw _ hlt, hc i xs[i] (List.getElem?_eq_getElem hi)]
    simp [List.getD, List.getElem?_eq_getElem hi]

/-- A slice that came in, as the shell tells it, reads as its first elements. -/
theorem sl_of_cells {k : IntKind} {w : World} {x : Addr} {len cap : Nat} {zs : List Int} (hl : len ≤ cap) (hz : zs.length = cap)
    (hcell : ∀ i, i < zs.length → w.cell? (x.add i) = some (.int k (zs.getD i 0))) : Sl w w.heap.size k (some x) (zs.take len) := by
  rcases Nat.eq_zero_or_pos len with rfl | hp
  · exact .inl (by simp)
  · obtain ⟨b, off, sp⟩ := x
    have hc := hcell 0 (by omega)
    have hsp : sp = none := by simpa [Addr.add] using World.cell?_spot hc
    subst hsp
    have hc0 : w.cell? ⟨b, off, none⟩ = some (.int k (zs.getD 0 0)) := by simpa [Addr.add] using hc
    refine .inr ⟨b, off, rfl, World.block_lt_of_cell? w _ hc0, fun j x hx => ?_⟩
    rw [List.getElem?_take] at hx
    split at hx
    · have hj : j < zs.length := (List.getElem?_eq_some_iff.1 hx).1
      have := hcell j hj
      rw [Addr.add_lit] at this
      rw [this]
      simp [List.getD, hx]
    · cases hx

end Go.Proofs.YteajbcngimccmaaDoor
