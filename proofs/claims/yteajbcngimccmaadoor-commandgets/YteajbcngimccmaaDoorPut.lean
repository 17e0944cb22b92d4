/-
  The walks of vlq.Put and vlq.PutAll: the bytes of one number, and of many. Conditions: of PutAll, at most 10000 numbers.
-/
import Derived.Test.YteajbcngimccmaaDoorDigits
namespace Go.Proofs.YteajbcngimccmaaDoor
open Go.RowKit

/-- The call gave a new slice that reads as xs, and the error er; nothing that was there has turned. -/
def PutPost (w : World) (k : IntKind) (xs : List Int) (er : Int) (e : Ending) (w' : World) : Prop :=
  ∃ A c, e = .returned (.tuple #[.slice A xs.length c, .int .i64 er]) ∧ (Sl w' w'.heap.size k A xs ∧ xs.length ≤ c) ∧ Below w.heap.size w w'

/-- All may be. -/
def okAll (l : List Int) : Bool := l.all okB
/-- The bytes of all, one behind the other. -/
def pb (l : List Int) : List Int := l.flatMap fun n => vb n 0

theorem pb_le : ∀ (l : List Int), okAll l = true → (pb l).length ≤ 8 * l.length := by
  intro l
  induction l with
  | nil => intro _; simp [pb]
  | cons n r ih =>
    intro h
    simp only [okAll, List.all_cons, Bool.and_eq_true] at h
    have h1 := ih h.2
    have h2 : (vb n 0).length ≤ 8 := vb_le8 (okB_bd h.1).2
    simp only [pb, List.flatMap_cons, List.length_append, List.length_cons] at h1 ⊢
    omega

theorem pb_snoc (l : List Int) (k : Nat) (hk : k < l.length) : pb (l.take (k + 1)) = pb (l.take k) ++ vb (l.getD k 0) 0 := by
  have e : l.getD k 0 = l[k] := by simp [List.getD, hk]
  rw [e, List.take_succ_eq_append_getElem hk]
  simp only [pb, List.flatMap_append, List.flatMap_cons, List.flatMap_nil, List.append_nil]

theorem okAll_snoc (l : List Int) (k : Nat) (hk : k < l.length) : okAll (l.take (k + 1)) = (okAll (l.take k) && okB (l.getD k 0)) := by
  have e : l.getD k 0 = l[k] := by simp [List.getD, hk]
  rw [e, List.take_succ_eq_append_getElem hk]
  simp only [okAll, List.all_append, List.all_cons, List.all_nil, Bool.and_true]

theorem okAll_not (l : List Int) (k : Nat) (hk : k < l.length) (h : okB (l.getD k 0) = false) : okAll l = false := by
  rw [okAll, List.all_eq_false]
  exact ⟨l[k], List.getElem_mem hk, by simpa [List.getD, hk] using h⟩

/-- The call gave a new row of its own that reads as xs, and the error er. -/
def OwnPost (w : World) (xs : List Int) (er : Int) (e : Ending) (w' : World) : Prop :=
  ∃ v, e = .returned (.tuple #[v, .int .i64 er]) ∧ w'.ownsRow w.heap.size 5 1 v xs.length (xs.map (Value.int .u8)) ∧ Below w.heap.size w w'

def AllPost (w : World) (l : List Int) (e : Ending) (w' : World) : Prop :=
  (okAll l = true ∧ OwnPost w (pb l) 0 e w') ∨ (okAll l = false ∧ e = .returned (.tuple #[.slice none 0 0, .int .i64 1]) ∧ Below w.heap.size w w')

def AllRel (w : World) (l : List Int) (v i : Value) (wr : World) : Prop :=
  ∃ k : Nat, k ≤ l.length ∧ i = .int .i64 k ∧ okAll (l.take k) = true ∧ wr.ownsRow w.heap.size 5 1 v (pb (l.take k)).length ((pb (l.take k)).map (Value.int .u8)) ∧ Below w.heap.size w wr

set_option maxHeartbeats 400000 in
theorem putall_any (A : Option Addr) (c : Nat) (l : List Int) (w : World) (hl : l.length ≤ 10000) (hs : Sl w w.heap.size .i64 A l) : Calls Tryd.prog 18 #[.slice A l.length c] w (AllPost w l) := by
  go_enter Tryd.func18, Tryd.ntmps18
  go_wp2
  go_loopw [4, 9] (fun v i wr => AllRel w l v i wr) (fun _ i _ => l.length - (intOf i).toNat)
  case atStart => exact ⟨0, Nat.zero_le _, rfl, rfl, World.ownsRow_nil _ _ _ _, Below.refl _ _⟩
  case round =>
    obtain ⟨k, hk, rfl, hok, hown, hbel⟩ := hrel
    by_cases hlt : k < l.length
    · obtain ⟨b, off, rfl, hb, hc⟩ := (hs.below hbel).at_ hlt
      by_cases hn : okB (l.getD k 0) = true
      · obtain ⟨n0, n1⟩ := okB_bd hn
        have hpl := pb_le _ hok
        have hvl : (vb (l.getD k 0) 0).length ≤ 8 := vb_le8 n1
        rw [List.length_take] at hpl
        have HD := Lib.hid (digits_any w.heap.size _ (l.getD k 0) _ wr hbel.size hown n0 n1 (by omega))
        have HOK := Lib.hid hok
        rw [← pb_snoc l k hlt] at HD
        have HOK' : Hid (okAll (l.take (k + 1)) = true) := by rw [okAll_snoc l k hlt, hok, hn]; rfl
        have HN := Lib.hid hn
        generalize l.getD k 0 = n at hc HD n0 n1
        clear hn hok hpl hvl hown HN HOK
        go_wp2_with (first | (go_at_call 29; refine (allowed_yes _ _ n0 n1).mono ?_; rintro e w' ⟨rfl, rfl⟩) | (go_at_call 30; refine HD.out.mono ?_; rintro e w' ⟨v', rfl, hown', hbel'⟩))
        go_roundw
        case rel => exact ⟨k + 1, by omega, by go_num, HOK'.out, hown', hbel.trans hbel'⟩
        case measure => simp [intOf]; omega
      · have hn' : okB (l.getD k 0) = false := by simpa using hn
        have HN : Hid (okAll l = false) := okAll_not l k hlt hn'
        have hnb := okB_nb hn'
        generalize l.getD k 0 = n at hc hnb
        clear hn hn' hok hown
        go_wp2_with (go_at_call 29; refine (allowed_no _ _ hnb).mono ?_; rintro e w' ⟨rfl, rfl⟩)
        go_ret2
        exact .inr ⟨HN.out, rfl, hbel⟩
    · obtain rfl : k = l.length := by omega
      have HOK := Lib.hid hok
      clear hok
      go_wp2
      go_ret2
      rw [List.take_length] at hown HOK
      exact .inl ⟨HOK.out, _, rfl, hown, hbel⟩

end Go.Proofs.YteajbcngimccmaaDoor
