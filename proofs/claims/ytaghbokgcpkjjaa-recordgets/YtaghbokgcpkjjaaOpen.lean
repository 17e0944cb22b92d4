/-
  How a record, and a slice of records, that came in are read: as a kind and a list of bytes each. And the walk of the statements' own first step ('awake'). No conditions.
-/
import Derived.Test.YtaghbokgcpkjjaaPut3
import Derived.Lib.SmallJoins
import Derived.Deep.SlicePairs
import Derived.OpenShut
import Derived.ShutString
import Derived.ChangeOld
namespace Go.Proofs.Ytaghbokgcpkjjaa
open Go.RowKit Go.ChangeShapes Go.WideShapes Go.ChangeAt Go.Joins Go.Deep

section
variable {H : Type} {enc : TypeId × Value → H} {W : World}

theorem open_body {fuel : Nat} {v : Value} {x : DataW H × List MemPlace} (h : DataW.trod enc Try.prog W 0 (fun _ => true) true fuel 22 [v] = some x) :
    ∃ (A : Option Addr) (c : Nat) (xs : List Int), v = .slice A xs.length c ∧ Sl W W.heap.size .u8 A xs ∧ xs.length ≤ c ∧ ∀ n ∈ xs, 0 ≤ n ∧ n ≤ 255 := by
  rcases open_ints Try.underlying22 Try.underlying5 (by kernel_rfl) h with ⟨hcs, _⟩ | ⟨a, l, c, zs, hcs, _, hl, hm, hz, _, hcell, hwz⟩
  · simp at hcs
    subst hcs
    exact ⟨none, 0, [], rfl, Sl.nil, Nat.le_refl _, fun n hn => by cases hn⟩
  · simp at hcs
    subst hcs
    have hz' : zs.length = c := by simpa using hz
    have e : (zs.take l).length = l := by simp only [List.length_take]; omega
    exact ⟨some a, c, zs.take l, by rw [e], sl_of_cells hl hz' hcell, by omega, fun n hn => byte_of (hwz n (List.mem_of_mem_take hn))⟩

theorem open_rec {r : Reach} {b0 : Nat} {v : Value} {d : DataW H} {p : List MemPlace} (hv : Value.okWide Try.prog W r b0 24 v) (h : DataW.Trod enc Try.prog W 0 (fun _ => true) true 24 v d p) :
    ∃ (k : Int) (A : Option Addr) (c : Nat) (xs : List Int), v = .agg #[.int .i64 k, .slice A xs.length c] ∧ (-9223372036854775808 ≤ k ∧ k ≤ 9223372036854775807) ∧ Sl W W.heap.size .u8 A xs ∧ xs.length ≤ c ∧ ∀ n ∈ xs, 0 ≤ n ∧ n ≤ 255 := by
  obtain ⟨v0, v1, y0, y1, n, rfl, _, _, h0, h1⟩ := open_agg2 Try.underlying24 (by kernel_rfl) (by kernel_rfl) hv h
  obtain ⟨k, hk, _, hw⟩ := DataW.trod_int Try.underlying3 h0
  obtain ⟨A, c, xs, rfl, hs, hc, hb⟩ := open_body h1
  simp at hk
  subst hk
  exact ⟨k, A, c, xs, rfl, int_of hw, hs, hc, hb⟩
end

def UpPost (w : World) (e : Ending) (w' : World) : Prop := e = .returned (.bool true) ∧ Below w.heap.size w w'

theorem rb_five : rb 5 [] = [5, 0, 0, 0, 0, 1] := by
  have h1 : vb 5 0 = [5] := by rw [vb_lo (by decide)]; rfl
  have h2 : vb 0 0 = [0] := by rw [vb_lo (by decide)]; rfl
  have h3 : sm [] = 1 := by decide
  simp [rb, h1, h2, h3, su]

theorem awake_any (w : World) : Calls Try.prog 10 #[] w (UpPost w) := by
  have H : Hid (Calls Try.prog 11 #[.agg #[.int .i64 5, .slice none 0 0]] w (PutPost w .u8 [5, 0, 0, 0, 0, 1] 0)) := put3_any 5 none 0 [] w Sl.nil (by simp) ([5, 0, 0, 0, 0, 1], 0) (by rw [pu_ok (by decide) (by decide), rb_five])
  have HS : ∀ (W : World) (A : Option Addr) (c : Nat), Sl W W.heap.size .u8 A [5, 0, 0, 0, 0, 1] → (convert 22 9 (.slice A 6 c)).run Try.prog W = .ok (.string ⟨#[5, 0, 0, 0, 0, 1]⟩) W := fun W A c hsl => str_of hsl c _ (fun p hp => rfl)
  go_enter Try.func10, Try.ntmps10
  go_wp2_with (go_at_call 11; refine H.out.mono ?_; rintro e w1 ⟨A, c, rfl, ⟨hsl, hcap⟩, hbel⟩; have hcv := HS w1 A c hsl; clear hsl)
  go_ret
  exact ⟨rfl, hbel⟩

end Go.Proofs.Ytaghbokgcpkjjaa
