/-
  What a range over a text reads, in plain numbers: the rune and its size at each place, against the document's own sizes. No program's function is walked here. No conditions.
-/
import Derived.Test.YtpeieagfndggbaaDoorTx
import Derived.Lib.DecodeN
namespace Go.Proofs.YtpeieagfndggbaaDoor.Tx
/-! WHAT A RANGE OVER A TEXT READS, and which runes it has. -/
theorem fo1 {t : List Nat} : (fo 1 t = true) = (1 < t.length + 1 ∧ 128 ≤ t.getD 0 0 ∧ t.getD 0 0 ≤ 191) := by
  cases t with
  | nil => simp [fo]
  | cons a t => simp [fo, isc]
theorem fo2 {t : List Nat} : (fo 2 t = true) = ((1 < t.length + 1 ∧ 128 ≤ t.getD 0 0 ∧ t.getD 0 0 ≤ 191) ∧ (2 < t.length + 1 ∧ 128 ≤ t.getD 1 0 ∧ t.getD 1 0 ≤ 191)) := by
  cases t with
  | nil => simp [fo]
  | cons a t =>
    cases t with
    | nil => simp [fo]
    | cons b t => simp [fo, isc]
theorem fo3 {t : List Nat} : (fo 3 t = true) = ((1 < t.length + 1 ∧ 128 ≤ t.getD 0 0 ∧ t.getD 0 0 ≤ 191) ∧ (2 < t.length + 1 ∧ 128 ≤ t.getD 1 0 ∧ t.getD 1 0 ≤ 191) ∧ (3 < t.length + 1 ∧ 128 ≤ t.getD 2 0 ∧ t.getD 2 0 ≤ 191)) := by
  cases t with
  | nil => simp [fo]
  | cons a t =>
    cases t with
    | nil => simp [fo]
    | cons b t =>
      cases t with
      | nil => simp [fo]
      | cons c t => simp [fo, isc]
theorem szN {c : Nat} {t : List Nat} : sz (c :: t) =
    if c < 128 then 1
    else if 194 ≤ c ∧ c ≤ 223 ∧ (1 < t.length + 1 ∧ 128 ≤ t.getD 0 0 ∧ t.getD 0 0 ≤ 191) then 2
    else if 224 ≤ c ∧ c ≤ 239 ∧ ((1 < t.length + 1 ∧ 128 ≤ t.getD 0 0 ∧ t.getD 0 0 ≤ 191) ∧ (2 < t.length + 1 ∧ 128 ≤ t.getD 1 0 ∧ t.getD 1 0 ≤ 191)) then (if c = 224 ∧ t.getD 0 0 < 160 ∨ c = 237 ∧ 159 < t.getD 0 0 then 0 else 3)
    else if 240 ≤ c ∧ c ≤ 244 ∧ ((1 < t.length + 1 ∧ 128 ≤ t.getD 0 0 ∧ t.getD 0 0 ≤ 191) ∧ (2 < t.length + 1 ∧ 128 ≤ t.getD 1 0 ∧ t.getD 1 0 ≤ 191) ∧ (3 < t.length + 1 ∧ 128 ≤ t.getD 2 0 ∧ t.getD 2 0 ≤ 191)) then (if c = 240 ∧ t.getD 0 0 < 144 ∨ c = 244 ∧ 143 < t.getD 0 0 then 0 else 4)
    else 0 := by
  rw [sz_cons]; simp only [fo1, fo2, fo3]
def dec (l : List Nat) : Nat × Nat := Go.Lib.decodeN l.length (l.getD 0 0) (l.getD 1 0) (l.getD 2 0) (l.getD 3 0)
theorem dec_none {c : Nat} {t : List Nat} (hb : ∀ k, (c :: t).getD k 0 < 256) (h : sz (c :: t) = 0) : dec (c :: t) = (65533, 1) := by
  have h0 := hb 0; have h1 := hb 1; have h2 := hb 2; have h3 := hb 3
  simp only [List.getD_cons_zero, List.getD_cons_succ] at h0 h1 h2 h3
  rw [szN] at h
  unfold dec Go.Lib.decodeN
  simp only [List.getD_cons_zero, List.getD_cons_succ, List.length_cons]
  generalize t.getD 0 0 = d at *
  generalize t.getD 1 0 = e at *
  generalize t.getD 2 0 = f at *
  generalize t.length = n at *
  repeat' split at h
  all_goals (repeat' split)
  all_goals first | rfl | (exfalso; omega)
theorem dec_some {c : Nat} {t : List Nat} (hb : ∀ k, (c :: t).getD k 0 < 256) (h : sz (c :: t) ≠ 0) :
    (dec (c :: t)).2 = sz (c :: t) ∧ (c < 128 → (dec (c :: t)).1 = c) ∧ (128 ≤ c → 128 ≤ (dec (c :: t)).1 ∧ ((dec (c :: t)).1 = 65533 → c = 239 ∧ t.getD 0 0 = 191 ∧ t.getD 1 0 = 189 ∧ 2 ≤ t.length)) := by
  have h0 := hb 0; have h1 := hb 1; have h2 := hb 2; have h3 := hb 3
  simp only [List.getD_cons_zero, List.getD_cons_succ] at h0 h1 h2 h3
  rw [szN] at h ⊢
  unfold dec Go.Lib.decodeN
  simp only [List.getD_cons_zero, List.getD_cons_succ, List.length_cons]
  generalize t.getD 0 0 = d at *
  generalize t.getD 1 0 = e at *
  generalize t.getD 2 0 = f at *
  generalize t.length = n at *
  by_cases k0 : c < 128
  · simp only [if_pos k0]; exact ⟨trivial, fun _ => trivial, fun h => by omega⟩
  · simp only [if_neg k0] at h ⊢
    by_cases k1 : 194 ≤ c ∧ c ≤ 223 ∧ (1 < n + 1 ∧ 128 ≤ d ∧ d ≤ 191)
    · rw [if_pos k1, if_pos (by omega), if_pos (by omega)]
      refine ⟨rfl, fun h => by omega, fun _ => ⟨?_, fun h => ?_⟩⟩
      · show 128 ≤ c % 32 * 64 + d % 64; omega
      · have h : c % 32 * 64 + d % 64 = 65533 := h; omega
    · rw [if_neg k1] at h ⊢
      by_cases k2 : 224 ≤ c ∧ c ≤ 239 ∧ ((1 < n + 1 ∧ 128 ≤ d ∧ d ≤ 191) ∧ (2 < n + 1 ∧ 128 ≤ e ∧ e ≤ 191))
      · rw [if_pos k2] at h ⊢
        by_cases k3 : c = 224 ∧ d < 160 ∨ c = 237 ∧ 159 < d
        · rw [if_pos k3] at h; omega
        · rw [if_neg k3, if_neg (by omega), if_pos (by omega), if_pos (by omega)]
          refine ⟨rfl, fun h => by omega, fun _ => ⟨?_, fun h => ?_⟩⟩
          · show 128 ≤ c % 16 * 4096 + d % 64 * 64 + e % 64; omega
          · have h : c % 16 * 4096 + d % 64 * 64 + e % 64 = 65533 := h; omega
      · rw [if_neg k2] at h ⊢
        by_cases k4 : 240 ≤ c ∧ c ≤ 244 ∧ ((1 < n + 1 ∧ 128 ≤ d ∧ d ≤ 191) ∧ (2 < n + 1 ∧ 128 ≤ e ∧ e ≤ 191) ∧ (3 < n + 1 ∧ 128 ≤ f ∧ f ≤ 191))
        · rw [if_pos k4] at h ⊢
          by_cases k5 : c = 240 ∧ d < 144 ∨ c = 244 ∧ 143 < d
          · rw [if_pos k5] at h; omega
          · rw [if_neg k5, if_neg (by omega), if_neg (by omega), if_pos (by omega), if_pos (by omega)]
            refine ⟨rfl, fun h => by omega, fun _ => ⟨?_, fun h => ?_⟩⟩
            · show 128 ≤ c % 8 * 262144 + d % 64 * 4096 + e % 64 * 64 + f % 64; omega
            · have h : c % 8 * 262144 + d % 64 * 4096 + e % 64 * 64 + f % 64 = 65533 := h; omega
        · rw [if_neg k4] at h; omega
theorem sz_fffd (t : List Nat) : sz (239 :: 191 :: 189 :: t) = 3 := by
  rw [szN]; simp
end Go.Proofs.YtpeieagfndggbaaDoor.Tx
