/-
  A text as the list of its bytes ('nt'), and what the model's operations on texts are in these words. No program's function is walked here. No conditions.
-/
import Derived.Test.YtpeieagfndggbaaDoorDc
import Derived.Laws.RangeAny
import Derived.Lib.Strings
namespace Go.Proofs.YtpeieagfndggbaaDoor
open Tx

def nt (s : ByteArray) : List Nat := s.data.toList.map UInt8.toNat
theorem nt_len (s : ByteArray) : (nt s).length = s.size := by
  unfold nt; rw [List.length_map]; exact Array.length_toList
theorem nt_inj {a b : ByteArray} (h : nt a = nt b) : a = b := by
  unfold nt at h
  have h1 : a.data.toList = b.data.toList := List.map_inj_right (fun x y e => UInt8.toNat_inj.1 e) |>.1 h
  cases a; cases b
  congr
  exact Array.toList_inj.1 h1
theorem nt_mk (l : List UInt8) : nt ⟨l.toArray⟩ = l.map UInt8.toNat := rfl
theorem nt_lt (s : ByteArray) {x : Nat} (h : x ∈ nt s) : x < 256 := by
  unfold nt at h
  obtain ⟨b, -, rfl⟩ := List.mem_map.1 h
  exact b.toNat_lt
theorem nt_get (s : ByteArray) (k : Nat) : (nt s).getD k 0 = (s.get! k).toNat := by
  unfold nt
  by_cases hk : k < s.size
  · have h1 : k < s.data.toList.length := by rw [Array.length_toList]; exact hk
    have h2 : k < (s.data.toList.map UInt8.toNat).length := by rw [List.length_map]; exact h1
    rw [List.getD_eq_getElem?_getD, List.getElem?_eq_getElem h2, Option.getD_some, List.getElem_map]
    have : s.get! k = s[k]'hk := by have := get_at s k hk; exact this
    rw [this, Array.getElem_toList]; rfl
  · have h2 : ¬ k < (s.data.toList.map UInt8.toNat).length := by rw [List.length_map, Array.length_toList]; exact hk
    rw [List.getD_eq_getElem?_getD, List.getElem?_eq_none (by omega), Option.getD_none]
    have : s.get! k = default := by
      show s.data[k]! = default
      exact getElem!_neg s.data k hk
    rw [this]; rfl
theorem dec_eq (s : ByteArray) (pos : Nat) : Utf8.decode s pos = dec ((nt s).drop pos) := by
  have g : ∀ k, ((nt s).drop pos).getD k 0 = (s.get! (pos + k)).toNat := fun k => by
    rw [← nt_get, List.getD_eq_getElem?_getD, List.getElem?_drop, ← List.getD_eq_getElem?_getD]
  unfold dec
  rw [Go.Lib.decode_at, g, g, g, g, List.length_drop, nt_len]; rfl
theorem nt_append (a b : ByteArray) : nt (a ++ b) = nt a ++ nt b := by
  unfold nt
  rw [← List.map_append, ByteArray.data_append, Array.toList_append]
theorem nt_extract (s : ByteArray) (a b : Nat) : nt (s.extract a b) = ((nt s).take b).drop a := by
  unfold nt
  rw [ByteArray.data_extract, Array.toList_extract, List.extract_eq_take_drop, List.map_take, List.map_drop, List.drop_take]
theorem nt_nil {s : ByteArray} (h : nt s = []) : s = ⟨#[]⟩ := nt_inj (h.trans rfl)
end Go.Proofs.YtpeieagfndggbaaDoor
