/-
  The walk of the law GraphParts. No conditions.
-/
import Derived.Test.YtnfjfpiijikniaaRo
namespace Go.Proofs.Ytnfjfpiijikniaa.Gp
open Go.RowKit
set_option linter.unusedVariables false

theorem Out.isc {E : Nat → Nat → Prop} {m : Nat} {T : Nat → Prop} {r : List (List Nat)} (h : Out E m T r) : ∀ p ∈ r, ∃ k, k < m ∧ p = cmp E m k := by
  induction h with
  | done _ => intro p hp; simp at hp
  | step hl _ ih =>
    intro p hp
    rcases List.mem_cons.1 hp with rfl | hp
    · exact ⟨_, hl.1, rfl⟩
    · exact ih p hp
noncomputable def nt (T : Nat → Prop) (x : Nat) : Bool := @decide (¬ T x) (Classical.propDecidable _)
theorem nt_iff {T : Nat → Prop} {x : Nat} : nt T x = true ↔ ¬ T x := by simp [nt]
theorem Out.few {E : Nat → Nat → Prop} {m : Nat} {T : Nat → Prop} {r : List (List Nat)} (h : Out E m T r) : r.length ≤ (List.range m).countP (nt T) := by
  induction h with
  | done _ => simp
  | @step T k r hl _ ih =>
    have := countP_lt (p := nt T) (q := nt fun x => T x ∨ x ∈ cmp E m k) (l := List.range m) (a := k) (fun x _ hx => nt_iff.2 fun t => nt_iff.1 hx (.inl t)) (by simpa using hl.1) (nt_iff.2 hl.2.1) (by
      rcases hb : nt (fun x => T x ∨ x ∈ cmp E m k) k with _ | _
      · rfl
      · exact absurd (.inr (cmp_self hl.1)) (nt_iff.1 hb))
    rw [List.length_cons]
    omega
theorem Out.len {E : Nat → Nat → Prop} {m : Nat} {T : Nat → Prop} {r : List (List Nat)} (h : Out E m T r) : r.length ≤ m := by
  have h1 := h.few
  refine Nat.le_trans h1 (Nat.le_trans List.countP_le_length ?_)
  simp
theorem Out.zlen {E : Nat → Nat → Prop} {m : Nat} {T : Nat → Prop} {r : List (List Nat)} (h : Out E m T r) (hm : m ≤ 1000) : (r.map zs).length ≤ 1000 ∧ ∀ x ∈ r.map zs, x.length ≤ 1000 := by
  refine ⟨by rw [List.length_map]; exact Nat.le_trans h.len hm, fun x hx => ?_⟩
  obtain ⟨p, hp, rfl⟩ := List.mem_map.1 hx
  obtain ⟨k, _, rfl⟩ := h.isc p hp
  rw [zs_len]
  exact Nat.le_trans (cmp_len m k) hm
/-- The two orders are told the same. -/
theorem same_any {E : Nat → Nat → Prop} {m : Nat} {out : List (List Nat)} (h : Out E m (fun _ => False) out) (hm : m ≤ 1000) (A A' : Option Addr) (c c' : Nat) (W : World) (hx : Ll W W.heap.size A (out.map zs)) (hy : Ll W W.heap.size A' (out.map zs)) : Calls Try.prog 11 #[.slice A out.length c, .slice A' out.length c'] W (BoolPost W true) := by
  have := same2_any A A' c c' (out.map zs) (out.map zs) rfl (h.zlen hm).1 (h.zlen hm).2 W hx hy
  rwa [List.length_map] at this

set_option maxHeartbeats 2000000 in
theorem lparts_any (n : Int) (A : Option Addr) (c : Nat) (l : List (Int × Int)) (w : World) (hs : Es w w.heap.size A l) : Calls Try.prog 3 #[.int .i64 n, .slice A l.length c] w (UpPost w) := by
  have HW := Lib.hid (awake_any w)
  have HS := Lib.hid hs
  clear hs
  by_cases h1 : 30 < n
  · go_enter Try.func3, Try.ntmps3
    go_wp2_with fail
    refine HW.out.mono ?_
    rintro e w1 ⟨rfl, B1⟩
    go_wp2
    go_ret
    exact ⟨rfl, B1⟩
  · have d1 := decide_eq_false h1
    by_cases hl : (300 : Int) < (l.length : Int)
    · go_enter Try.func3, Try.ntmps3
      go_wp2_with fail
      refine HW.out.mono ?_
      rintro e w1 ⟨rfl, B1⟩
      go_wp2
      go_ret
      exact ⟨rfl, B1⟩
    · have d2 := decide_eq_false hl
      have hl3 : l.length ≤ 1000 := by omega
      have hle := am_le n
      have HC := Lib.hid (fun W h => Components_any n A c l hl3 W h)
      have HR := Lib.hid (fun W h => rComponents_any n A c l hl3 W h)
      clear h1 hl
      go_enter Try.func3, Try.ntmps3
      go_wp2_with fail
      refine HW.out.mono ?_
      rintro e w1 ⟨rfl, B1⟩
      go_wp2_with fail
      refine (HC.out w1 (HS.out.to B1 B1.size)).mono ?_
      rintro e w2 ⟨out, hO, A2, c2, rfl, s2, B2⟩
      have B2' := B1.trans (B2.mono B1.size)
      go_wp2_with fail
      refine (HR.out w2 (HS.out.to B2' B2'.size)).mono ?_
      rintro e w3 ⟨out2, hO2, A3, c3, rfl, s3, B3⟩
      obtain rfl := hO.one hO2
      have B3' := B2'.trans (B3.mono B2'.size)
      have HQ := Lib.hid (same_any hO (by omega) A2 A3 c2 c3 w3 (s2.to B3 B3.size) s3)
      clear hO hO2
      go_wp2_with fail
      refine HQ.out.mono ?_
      rintro e w4 ⟨rfl, B4⟩
      have B4' := B3'.trans (B4.mono B3'.size)
      go_wp2
      go_ret
      exact ⟨rfl, B4'⟩

end Go.Proofs.Ytnfjfpiijikniaa.Gp
