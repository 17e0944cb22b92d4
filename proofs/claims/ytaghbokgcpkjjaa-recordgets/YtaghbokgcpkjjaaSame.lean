/-
  The walk of the document's Same, at two slices that read as the same records: it answers true. Conditions: at most 2^40 records.
-/
import Derived.Test.YtaghbokgcpkjjaaAll
namespace Go.Proofs.Ytaghbokgcpkjjaa
open Go.RowKit

theorem Rc.at_ {w : World} {B : Nat} {A : Option Addr} {l : List (Int × List Int)} (h : Rc w B A l) {i : Nat} (hi : i < l.length) : ∃ b off A' c', A = some ⟨b, off, none⟩ ∧ b < B ∧ w.cell? ⟨b, off + i * 2, none⟩ = some (.int .i64 (l[i]).1) ∧
    w.cell? ⟨b, off + i * 2 + 1, none⟩ = some (.slice A' (l[i]).2.length c') ∧ Sl w B .u8 A' (l[i]).2 := by
  rcases h with rfl | ⟨b, off, hA, hb, hc⟩
  · simp at hi
  · obtain ⟨h1, A', c', h2, h3⟩ := hc i l[i] (List.getElem?_eq_getElem hi)
    exact ⟨b, off, A', c', hA, hb, h1, h2, h3⟩

def SmPost (w : World) (e : Ending) (w' : World) : Prop := e = .returned (.bool true) ∧ ∃ m, w' = w.drewN m
def SmRel (w : World) (l : List (Int × List Int)) (t : Value) (wr : World) : Prop := ∃ k m : Nat, k ≤ l.length ∧ t = .int .i64 (k : Int) ∧ wr = w.drewN m

set_option maxHeartbeats 1600000 in
theorem same_any (A1 A2 : Option Addr) (c1 c2 B1 B2 : Nat) (l : List (Int × List Int)) (w : World) (hl : l.length ≤ 1099511627776) (h1 : Rc w B1 A1 l) (h2 : Rc w B2 A2 l) :
    Calls Try.prog 17 #[.slice A1 l.length c1, .slice A2 l.length c2] w (SmPost w) := by
  go_enter Try.func17, Try.ntmps17
  go_wp2
  go_loopw [5] (fun t wr => SmRel w l t wr) (fun t _ => l.length - (intOf t).toNat)
  case atStart => exact ⟨0, 0, Nat.zero_le _, rfl, rfl⟩
  case round =>
    obtain ⟨k, m, hk, rfl, rfl⟩ := hrel
    by_cases hlt : k < l.length
    · obtain ⟨b, off, A', c', rfl, hb, x0, x1, hsA⟩ := h1.at_ hlt
      obtain ⟨b', off', A'', c'', rfl, hb', y0, y1, hsB⟩ := h2.at_ hlt
      have hki : (k : Int) < (l.length : Int) := by omega
      have hk0 : (0 : Int) ≤ (k : Int) := by omega
      have v1 : ∀ m, (convert 22 9 (.slice A' (l[k]).2.length c')).run Try.prog (w.drewN m) = .ok (.string (strOfNums (l[k]).2)) (w.drewN m) := fun m => str_of hsA c' (w.drewN m) (fun p _ => rfl)
      have v2 : ∀ m, (convert 22 9 (.slice A'' (l[k]).2.length c'')).run Try.prog (w.drewN m) = .ok (.string (strOfNums (l[k]).2)) (w.drewN m) := fun m => str_of hsB c'' (w.drewN m) (fun p _ => rfl)
      have v3 : ∀ n, (convert 22 9 (.slice A' (l[k]).2.length c')).run Try.prog ((w.drewN m).drewN n) = .ok (.string (strOfNums (l[k]).2)) ((w.drewN m).drewN n) := fun n => by rw [World.drewN_drewN]; exact v1 _
      have v4 : ∀ n, (convert 22 9 (.slice A'' (l[k]).2.length c'')).run Try.prog ((w.drewN m).drewN n) = .ok (.string (strOfNums (l[k]).2)) ((w.drewN m).drewN n) := fun n => by rw [World.drewN_drewN]; exact v2 _
      have x0' : (w.drewN m).cell? ⟨b, off + k * 2, none⟩ = some (.int .i64 (l[k]).1) := x0
      have x1' : (w.drewN m).cell? ⟨b, off + k * 2 + 1, none⟩ = some (.slice A' (l[k]).2.length c') := x1
      have y0' : (w.drewN m).cell? ⟨b', off' + k * 2, none⟩ = some (.int .i64 (l[k]).1) := y0
      have y1' : (w.drewN m).cell? ⟨b', off' + k * 2 + 1, none⟩ = some (.slice A'' (l[k]).2.length c'') := y1
      clear v1 v2 x0 x1 y0 y1 hsA hsB h1 h2
      generalize l[k] = r at *
      obtain ⟨kd, bd⟩ := r
      simp only at x0' x1' y0' y1' v3 v4
      obtain ⟨W, hW⟩ : ∃ W, w.drewN m = W := ⟨_, rfl⟩
      rw [hW] at x0' x1' y0' y1' v3 v4 ⊢
      have HW := Lib.hid hW
      clear hW
      go_wp2_with fail
      go_quiet (fail)
      go_wp2
      go_roundw
      case rel => exact ⟨k + 1, m + nq, by omega, by go_num, by rw [← HW.out, World.drewN_drewN]⟩
      case measure => simp [intOf]; omega
    · have hke : ¬ k < l.length := hlt
      go_wp2
      go_ret
      exact ⟨rfl, m, rfl⟩

end Go.Proofs.Ytaghbokgcpkjjaa
