/-
  The walk of the statements' own 'place': in which part a thing stands. Conditions: at most 1000 parts of at most 1000 things; it stands in one.
-/
import Derived.Test.YtnfjfpiijikniaaOtp
import Derived.Test.YtnfjfpiijikniaaLli
namespace Go.Proofs.Ytnfjfpiijikniaa.Gp
open Go.RowKit
set_option linter.unusedVariables false

def fb2 (b : Bool) (i0 : Nat) : Int := if b then (i0 : Int) else -1

set_option maxRecDepth 100000 in
set_option maxHeartbeats 2000000 in
theorem place_any {E : Nat → Nat → Prop} {m : Nat} (g c base : Nat) (out : List (List Nat)) (hO : Out E m (fun _ => False) out) (ho : Ot E m (fun _ => False) out) (hm : m ≤ 1000) (x i0 : Nat) (p0 : List Nat) (hi0 : out[i0]? = some p0) (hx : x ∈ p0) (w : World) (hP : Pr w base (.slice (some ⟨g, 0, none⟩) out.length c) out) :
    Calls Try.prog 19 #[.slice (some ⟨g, 0, none⟩) out.length c, .int .i64 (x : Int)] w (fun e w' => e = .returned (.int .i64 (i0 : Int)) ∧ w' = w) := by
  have hol : out.length ≤ 1000 := Nat.le_trans hO.len hm
  have hi0l := (List.getElem?_eq_some_iff.1 hi0).1
  have HI0 := Lib.hid hi0
  have HX := Lib.hid hx
  have HP := Lib.hid hP
  have HO := Lib.hid hO
  have Ho := Lib.hid ho
  clear hi0 hx hP hO ho
  go_enter Try.func19, Try.ntmps19
  go_wp2
  go_loopg [5, 6] out.length (fun q f t W => ∃ (i : Nat) (b : Bool), i + q = out.length ∧ t = .int .i64 (i : Int) ∧ w = W ∧ f = .int .i64 (fb2 b i0) ∧ Hid (b = true ↔ i0 < i))
  case atStart => exact ⟨0, false, by omega, rfl, rfl, rfl, by show _ ↔ _; simp⟩
  case round =>
    obtain ⟨i, b, hq, rfl, hW, rfl, hb⟩ := hrel
    subst hW
    by_cases hlt : i < out.length
    · have hii : (i : Int) < (out.length : Int) := by omega
      have hi00 : (0 : Int) ≤ (i : Int) := by omega
      obtain ⟨gi, ci, k1, k2⟩ := pr_at HP.out (i := i) rfl (List.getElem?_eq_getElem hlt)
      have HXi : Hid (out[i]? = some out[i]) := List.getElem?_eq_getElem hlt
      have hpl : out[i].length ≤ 1000 := by
        obtain ⟨k, _, e⟩ := HO.out.isc out[i] (List.getElem_mem hlt)
        rw [e]
        exact Nat.le_trans (cmp_len m k) hm
      have HND : Hid (out[i].Nodup) := by
        obtain ⟨k, _, e⟩ := HO.out.isc out[i] (List.getElem_mem hlt)
        rw [e]
        exact rises_nodup (cmp_rises k)
      have K2 := Lib.hid k2
      clear k2
      generalize out[i] = p at *
      go_wp2
      go_loopg [5, 7] p.length (fun q f t W => ∃ (j : Nat) (b : Bool), j + q = p.length ∧ t = .int .i64 (j : Int) ∧ w = W ∧ f = .int .i64 (fb2 b i0) ∧ Hid (b = true ↔ i0 < i ∨ (i = i0 ∧ x ∈ p.take j)))
      case atStart => exact ⟨0, b, by omega, rfl, rfl, rfl, by show _ ↔ _; rw [hb.out]; simp⟩
      case round =>
        obtain ⟨j, b2, hq2, rfl, hW, rfl, hb2⟩ := hrel
        subst hW
        by_cases hjt : j < p.length
        · have hji : (j : Int) < (p.length : Int) := by omega
          have hj0 : (0 : Int) ≤ (j : Int) := by omega
          have q2 := K2.out j _ (List.getElem?_eq_getElem hjt)
          have HM : Hid (∀ y, y ∈ p.take (j + 1) ↔ y ∈ p.take j ∨ y = p[j]) := fun y => by
            rw [List.take_succ_eq_append_getElem hjt, List.mem_append, List.mem_singleton]
          have HNI : Hid (p[j] ∉ p.take j) := fun h => by
            have := HND.out
            rw [← List.take_append_drop j p, List.nodup_append] at this
            have e : p.drop j = p[j] :: p.drop (j + 1) := List.drop_eq_getElem_cons hjt
            exact this.2.2 _ h p[j] (e ▸ List.mem_cons_self) rfl
          have HIN : Hid (p[j] ∈ p) := List.getElem_mem hjt
          generalize p[j] = t at *
          by_cases he : t = x
          · have hi : i = i0 := Ho.out.place HXi.out HI0.out (he ▸ HIN.out) HX.out
            have hbf : b2 = false := Bool.eq_false_iff.2 fun h => (hb2.out.1 h).elim (fun h => by omega) (fun h => HNI.out (he ▸ h.2))
            subst hbf
            have HB : Hid (true = true ↔ i0 < i ∨ (i = i0 ∧ x ∈ p.take (j + 1))) := by
              show _ ↔ _
              simp only [true_iff]
              exact .inr ⟨hi, (HM.out x).2 (.inr he.symm)⟩
            have HF : Hid (fb2 true i0 = (i : Int)) := by show _ = _; simp [fb2, hi]
            have hf : fb2 false i0 = -1 := rfl
            have e1 : ((t : Int) == (x : Int)) = true := by simp [he]
            clear he hi
            go_wp2
            go_roundg (p.length - (j + 1))
            case measure => omega
            case rel => exact ⟨j + 1, true, by omega, by go_num, rfl, by rw [HF.out], (by have := HB.out; show _ ↔ _; simpa using this)⟩
          · have HB : Hid (b2 = true ↔ i0 < i ∨ (i = i0 ∧ x ∈ p.take (j + 1))) := by
              show _ ↔ _
              rw [hb2.out, HM.out x]
              constructor
              · rintro (h | h)
                · exact .inl h
                · exact .inr ⟨h.1, .inl h.2⟩
              · rintro (h | ⟨h, k | k⟩)
                · exact .inl h
                · exact .inr ⟨h, k⟩
                · exact absurd k.symm he
            have e1 : ((t : Int) == (x : Int)) = false := by simpa using (fun e : (t : Int) = (x : Int) => he (by omega))
            clear he
            go_wp2
            go_roundg (p.length - (j + 1))
            case measure => omega
            case rel => exact ⟨j + 1, b2, by omega, by go_num, rfl, rfl, HB.out⟩
        · obtain rfl : p.length = j := by omega
          have HB : Hid (b2 = true ↔ i0 < i + 1) := by
            show _ ↔ _
            rw [hb2.out, List.take_length]
            constructor
            · rintro (h | h) <;> omega
            · intro h
              rcases Nat.lt_or_ge i0 i with h1 | h1
              · exact .inl h1
              · have : i = i0 := by omega
                subst this
                refine .inr ⟨rfl, ?_⟩
                have := HXi.out.symm.trans HI0.out
                cases this
                exact HX.out
          go_wp2
          go_roundg (out.length - (i + 1))
          case measure => omega
          case rel => exact ⟨i + 1, b2, by omega, by go_num, rfl, rfl, HB.out⟩
    · obtain rfl : out.length = i := by omega
      obtain rfl : b = true := hb.out.2 hi0l
      have hf : fb2 true i0 = (i0 : Int) := rfl
      go_wp2
      go_ret
      exact ⟨rfl, rfl⟩

end Go.Proofs.Ytnfjfpiijikniaa.Gp
