/-
  The walk of the document's numbers: so many numbers that bytes begin with, and what is left ('ga'). Conditions: the bytes are bytes, fewer than 2^62; at most 100 numbers.
-/
import Derived.Test.YteajbcngimccmaaDoorCmd
import Derived.Test.YteajbcngimccmaaDoorRget
namespace Go.Proofs.YteajbcngimccmaaDoor
open Go.RowKit
set_option linter.unusedVariables false

/-- So many numbers behind others; what is left; the error. -/
def ga : Nat → List Int → List Int → List Int × List Int × Int
  | 0, acc, l => (acc, l, 0)
  | m + 1, acc, l => if (gx l).2.2 ≠ 0 then ([], [], (gx l).2.2) else ga m (acc ++ [(gx l).1]) (gx l).2.1

def NPost (w : World) (D : Nat) (r : List Int × List Int × Int) (e : Ending) (w' : World) : Prop :=
  (r.2.2 = 0 → ∃ v A c, e = .returned (.tuple #[v, .slice A r.2.1.length c, .int .i64 0]) ∧ w'.ownsRow w.heap.size 3 1 v r.1.length (r.1.map (Value.int .i64)) ∧ Sl w' D .u8 A r.2.1 ∧ r.2.1.length ≤ c) ∧
  (r.2.2 ≠ 0 → e = .returned (.tuple #[.slice none 0 0, .slice none 0 0, .int .i64 r.2.2])) ∧ Below w.heap.size w w'

def NRel (w : World) (D many : Nat) (xs : List Int) (b v i : Value) (wr : World) : Prop :=
  ∃ (k : Nat) (l ns : List Int) (A : Option Addr) (c : Nat), k ≤ many ∧ i = .int .i64 k ∧ b = .slice A l.length c ∧ Sl w D .u8 A l ∧ l.length ≤ c ∧ l.length ≤ 4611686018427387904 ∧ (∀ x ∈ l, 0 ≤ x ∧ x ≤ 255) ∧ ns.length = k ∧
    wr.ownsRow w.heap.size 3 1 v ns.length (ns.map (Value.int .i64)) ∧ Below w.heap.size w wr ∧ ga many [] xs = ga (many - k) ns l

set_option maxHeartbeats 1000000 in
theorem rnums_any (A : Option Addr) (c : Nat) (xs : List Int) (many D : Nat) (w : World) (hD : D ≤ w.heap.size) (hm : many ≤ 100) (hl : xs.length ≤ 4611686018427387904) (hc : xs.length ≤ c) (hs : Sl w D .u8 A xs) (hx : ∀ x ∈ xs, 0 ≤ x ∧ x ≤ 255) (r : List Int × List Int × Int) (hr : ga many [] xs = r) :
    Calls Tryd.prog 28 #[.slice A xs.length c, .int .i64 (many : Int)] w (NPost w D r) := by
  obtain ⟨i3, ji, jz0, jz1, jz2⟩ := info_parts info3x
  go_enter Tryd.func28, Tryd.ntmps28
  go_wp2
  go_loopw [0, 7, 8] (fun b v i wr => NRel w D many xs b v i wr) (fun _ _ i _ => many - (intOf i).toNat)
  case atStart => exact ⟨0, xs, [], A, c, Nat.zero_le _, rfl, rfl, hs, hc, hl, hx, rfl, World.ownsRow_nil _ _ _ _, Below.refl _ _, rfl⟩
  case round =>
    obtain ⟨k, l, ns, A', c', hk, rfl, rfl, hs', hc', hl', hx', hns, hown, hbel, hga⟩ := hrel
    by_cases hlt : k < many
    · obtain ⟨q, hq⟩ : ∃ q, many - k = q + 1 := ⟨many - k - 1, by omega⟩
      rw [hq] at hga
      have hklt : (k : Int) < (many : Int) := by omega
      rcases h1 : gt 0 0 l with ⟨n, j, f⟩
      have HG : Hid (Calls Tryd.prog 35 #[.slice A' l.length c'] wr fun e w' => e = .returned (.tuple #[.int .i64 n, .int .i64 (j : Int), .int .i64 f]) ∧ wr = w') :=
        (rget_any A' c' l wr D hl' (hs'.below (hbel.mono hD)) hx').mono fun e w' ⟨he, hw⟩ => ⟨by rw [he, h1]; rfl, hw⟩
      by_cases hf : f = 0
      · subst hf
        have hj := (gt_once hx' h1).2.1
        have hgx : gx l = (n, l.drop j, 0) := gx_ok h1
        rw [ga, hgx, if_neg (by simp)] at hga
        have HGA := Lib.hid hga
        obtain ⟨A2, hr1, hr2, hsl⟩ := tail_run hs' c' j j rfl hj hc'
        have HS := Lib.hid hsl
        have HX : Hid (l.length - j = (l.drop j).length ∧ (l.drop j).length ≤ c' - j ∧ (l.drop j).length ≤ l.length) := by show _ ∧ _ ∧ _; rw [List.length_drop]; omega
        have HB := Lib.hid hx'
        have hz := hbel.size
        have HNS := Lib.hid hns
        have hn100 : ns.length ≤ 100 := by omega
        clear hga hgx h1 hsl hs' hx' hr hns
        obtain ⟨A3, c3, rfl⟩ := own_form hown
        go_wp2_with fail
        refine HG.out.mono ?_
        rintro e w' ⟨rfl, rfl⟩
        go_wp2_with (at_builtin; refine Hid.out ?_)
        unfold Hid
        refine wpList_app rfl (.tmp 26) (.tmp 28) 36 rfl w.heap.size 3 i3 (.int .i64 0) 8 Tryd.underlying36 ji jz0 jz1 jz2 rfl _ ns.length (ns.map (Value.int .i64)) rfl (hown.alloc _) (wr.heap.size + 1) .i64 (some ⟨wr.heap.size, 0, none⟩) 1 [n] rfl (row_sl wr [n]) (by unfold maxLen; simp; omega) (by simp; omega) (by simp; omega) ?_
        intro v4 w4 own4 g4
        have B4 : Below w.heap.size w w4 := (hbel.alloc hz (.cells #[.int .i64 n] 3)).grown g4 (by simp; omega) (fun q hq => ((hown.alloc (.cells #[.int .i64 n] 3)).lt q hq).1)
        clear g4 hown hbel
        go_wp2
        go_roundw
        case rel =>
          refine ⟨k + 1, l.drop j, ns ++ [n], A2, c' - j, by omega, by go_num, by rw [HX.out.1], HS.out, HX.out.2.1, Nat.le_trans HX.out.2.2 hl', fun x hx => HB.out x (List.mem_of_mem_drop hx), by simp [HNS.out], by simpa using own4, B4, ?_⟩
          rw [HGA.out, show many - (k + 1) = q by omega]
        case measure => simp [intOf]; omega
      · obtain ⟨rfl, rfl⟩ : n = 0 ∧ j = 0 := by
          rcases gt_err l 0 0 with h0 | h0 | h0
          · rw [h1] at h0; exact absurd h0 hf
          · rw [h1] at h0; simp at h0; exact ⟨h0.1, h0.2.1⟩
          · rw [h1] at h0; simp at h0; exact ⟨h0.1, h0.2.1⟩
        have hgx : gx l = (0, l, f) := gx_nb h1 hf
        rw [ga, hgx, if_pos hf] at hga
        rw [hga] at hr
        have HR := Lib.hid hr
        have HF := Lib.hid hf
        have hfb : (f == 0) = false := by rw [beq_eq_false_iff_ne]; exact hf
        clear hga hgx h1 hs' hx' hr hf hown
        go_wp2_with fail
        refine HG.out.mono ?_
        rintro e w' ⟨rfl, rfl⟩
        go_wp2
        go_ret3
        have := HR.out
        subst this
        exact ⟨fun h => absurd h HF.out, fun _ => rfl, hbel⟩
    · obtain rfl : k = many := by omega
      rw [Nat.sub_self, ga] at hga
      rw [hga] at hr
      have HR := Lib.hid hr
      have HS := Lib.hid (hs'.below (hbel.mono hD))
      clear hga hr hs' hx'
      go_wp2
      go_ret3
      have := HR.out
      subst this
      exact ⟨fun _ => ⟨_, A', c', rfl, hown, HS.out, hc'⟩, fun h => absurd rfl h, hbel⟩

end Go.Proofs.YteajbcngimccmaaDoor
