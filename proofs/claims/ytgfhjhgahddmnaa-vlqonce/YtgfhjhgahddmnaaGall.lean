/-
  The walks of vlq.GetAll and of the document's GetAll: both answer what 'ga' says. Conditions: at most 100000 bytes.
-/
import Derived.Test.YtgfhjhgahddmnaaRget
namespace Go.Proofs.Ytgfhjhgahddmnaa
open Go.RowKit

/-- All numbers that bytes are (the first argument bounds how many), or none and the error. -/
def ga : Nat → List Int → List Int × Int
  | 0, _ => ([], 0)
  | f + 1, xs => if xs = [] then ([], 0) else if (gt 0 0 xs).2.2 = 0 then (if (ga f (xs.drop (gt 0 0 xs).2.1)).2 = 0 then ((gt 0 0 xs).1 :: (ga f (xs.drop (gt 0 0 xs).2.1)).1, 0) else ([], (ga f (xs.drop (gt 0 0 xs).2.1)).2)) else ([], (gt 0 0 xs).2.2)

/-- Numbers that stand ahead of what is still to be read. -/
def glue (acc : List Int) (q : List Int × Int) : List Int × Int := if q.2 = 0 then (acc ++ q.1, 0) else ([], q.2)

theorem ga_end (f : Nat) : ga f [] = ([], 0) := by cases f <;> simp [ga]
theorem ga_on {f : Nat} {xs : List Int} {n : Int} {k : Nat} (hne : xs ≠ []) (h : gt 0 0 xs = (n, k, 0)) : ga (f + 1) xs = glue [n] (ga f (xs.drop k)) := by
  rw [ga, if_neg hne, h]; simp [glue]
theorem ga_bad {f : Nat} {xs : List Int} {e : Int} (hne : xs ≠ []) (h : gt 0 0 xs = (0, 0, e)) (he : e ≠ 0) : ga (f + 1) xs = ([], e) := by
  rw [ga, if_neg hne, h]; simp [he]
theorem glue_glue (a b : List Int) (q : List Int × Int) : glue a (glue b q) = glue (a ++ b) q := by
  unfold glue
  by_cases h : q.2 = 0 <;> simp [h]
theorem ga_err : ∀ (f : Nat) (xs : List Int), glue [] (ga f xs) = ga f xs := by
  intro f
  cases f with
  | zero => intro xs; simp [ga, glue]
  | succ f =>
    intro xs
    by_cases hne : xs = []
    · subst hne; rw [ga_end]; rfl
    · by_cases h : (gt 0 0 xs).2.2 = 0
      · have e : gt 0 0 xs = ((gt 0 0 xs).1, (gt 0 0 xs).2.1, 0) := Prod.ext rfl (Prod.ext rfl h)
        rw [ga_on hne e, glue_glue]; rfl
      · rcases gt_err xs 0 0 with q | q | q
        · exact absurd q h
        · rw [ga_bad hne q (by decide)]; rfl
        · rw [ga_bad hne q (by decide)]; rfl

def GaPost (w : World) (xs : List Int) (e : Ending) (w' : World) : Prop := PutPost w .i64 (ga xs.length xs).1 (ga xs.length xs).2 e w'

def GaRel (w : World) (xs : List Int) (v i : Value) (wr : World) : Prop :=
  ∃ (p f : Nat) (acc : List Int), p ≤ xs.length ∧ i = .int .i64 (p : Int) ∧ xs.length ≤ f + p ∧ acc.length ≤ p ∧ ga xs.length xs = glue acc (ga f (xs.drop p)) ∧
    wr.ownsRow w.heap.size 3 1 v acc.length (acc.map (Value.int .i64)) ∧ Below w.heap.size w wr

theorem ga_fin {xs acc : List Int} {p f : Nat} (h : ga xs.length xs = glue acc (ga f (xs.drop p))) (hp : ¬ p < xs.length) : ga xs.length xs = (acc, 0) := by
  rw [h, List.drop_of_length_le (by omega), ga_end]; simp [glue]
theorem ga_stop {xs acc : List Int} {p f : Nat} {e : Int} (h : ga xs.length xs = glue acc (ga f (xs.drop p))) (hp : p < xs.length) (hf : xs.length ≤ f + p) (hg : gt 0 0 (xs.drop p) = (0, 0, e)) (he : e ≠ 0) : ga xs.length xs = ([], e) := by
  obtain ⟨f', rfl⟩ : ∃ f', f = f' + 1 := ⟨f - 1, by omega⟩
  rw [h, ga_bad (by intro q; have := congrArg List.length q; simp at this; omega) hg he]; simp [glue, he]
theorem ga_next {xs acc : List Int} {p f : Nat} {n : Int} {k : Nat} (h : ga xs.length xs = glue acc (ga f (xs.drop p))) (hp : p < xs.length) (hf : xs.length ≤ f + p) (hg : gt 0 0 (xs.drop p) = (n, k, 0)) :
    ga xs.length xs = glue (acc ++ [n]) (ga (f - 1) (xs.drop (p + k))) := by
  obtain ⟨f', rfl⟩ : ∃ f', f = f' + 1 := ⟨f - 1, by omega⟩
  rw [h, ga_on (by intro q; have := congrArg List.length q; simp at this; omega) hg, glue_glue, List.drop_drop]; rfl

set_option maxHeartbeats 800000 in
theorem getall_any (A : Option Addr) (c : Nat) (xs : List Int) (w : World) (hl : xs.length ≤ 100000) (hc : xs.length ≤ c) (hs : Sl w w.heap.size .u8 A xs) (hx : ∀ x ∈ xs, 0 ≤ x ∧ x ≤ 255) :
    Calls Try.prog 20 #[.slice A xs.length c] w (GaPost w xs) := by
  obtain ⟨i0, hi, hz0, hz1, hz2⟩ := info_parts info3
  have HX := Lib.hid hx
  clear hx
  go_enter Try.func20, Try.ntmps20
  go_wp2
  go_loopw [4, 5] (fun v i wr => GaRel w xs v i wr) (fun _ i _ => xs.length - (intOf i).toNat)
  case atStart => exact ⟨0, xs.length, [], by omega, rfl, by omega, by simp, (ga_err _ _).symm, World.ownsRow_nil _ _ _ _, Below.refl _ _⟩
  case round =>
    obtain ⟨p, f, acc, hp, rfl, hf, hacc, hga, hown, hbel⟩ := hrel
    have HGA := Lib.hid hga
    have hsz := hbel.size
    clear hga
    by_cases hlt : p < xs.length
    · obtain ⟨b, off, rfl, hb, hcell⟩ := hs.at_ hlt
      have hne : ¬ c = p := by omega
      have hpc : p ≤ c := by omega
      clear hcell
      have HC := Lib.hid (get_any (some ⟨b, off + p, none⟩) (c - p) (xs.drop p) wr w.heap.size (by rw [List.length_drop]; omega) ((hs.below hbel).drop p) (fun x hx => HX.out x (List.mem_of_mem_drop hx)))
      rw [List.length_drop] at HC
      have HD : Hid (∀ x ∈ xs.drop p, 0 ≤ x ∧ x ≤ 255) := fun x hx => HX.out x (List.mem_of_mem_drop hx)
      rcases gt_err (xs.drop p) 0 0 with hg | hg | hg
      · obtain ⟨n, k, hnk⟩ : ∃ n k, gt 0 0 (xs.drop p) = (n, k, 0) := ⟨(gt 0 0 (xs.drop p)).1, (gt 0 0 (xs.drop p)).2.1, Prod.ext rfl (Prod.ext rfl hg)⟩
        obtain ⟨k0, k1, n0, n1, _⟩ := gt_once HD.out hnk
        rw [List.length_drop] at k1
        have HN := Lib.hid hnk
        have HC' : Hid (Calls Try.prog 18 #[.slice (some ⟨b, off + p, none⟩) (xs.length - p) (c - p)] wr (fun e w' => e = .returned (.tuple #[.int .i64 n, .int .i64 (k : Int), .int .i64 0]) ∧ wr = w')) :=
          HC.out.mono fun _ _ ⟨he, hw⟩ => ⟨by rw [he, hnk]; rfl, hw⟩
        clear hg hnk HC HD
        go_wp2_with (first | (go_at_call 18; refine HC'.out.mono ?_; rintro e w' ⟨rfl, rfl⟩) | (at_builtin; refine wpList_append_own _ rfl _ _ 22 rfl w.heap.size 3 i0 (.int .i64 0) 1 8 Try.underlying22 hi hz0 hz1 hz2 rfl (by decide) _ _ _ rfl (hown.alloc _) ⟨wr.heap.size, 0, none⟩ 1 1 [.int .i64 n] rfl rfl (cell_one_new _ _ _) (ints_one .i64 [n]) (by unfold maxLen; omega) (by omega) (by simp; omega) ?_; intro v' w1 hown' hgrow _))
        go_roundw
        case rel => exact ⟨p + k, f - 1, acc ++ [n], by omega, by go_num, by omega, by simp; omega, ga_next HGA.out hlt hf HN.out, by simpa using hown', (hbel.alloc hsz _).grown hgrow (by simp; omega) (fun j hj => (hown.lt j hj).1)⟩
        case measure => simp [intOf]; omega
      · have HN := Lib.hid hg
        have HC' : Hid (Calls Try.prog 18 #[.slice (some ⟨b, off + p, none⟩) (xs.length - p) (c - p)] wr (fun e w' => e = .returned (.tuple #[.int .i64 0, .int .i64 0, .int .i64 2]) ∧ wr = w')) :=
          HC.out.mono fun _ _ ⟨he, hw⟩ => ⟨by rw [he, hg]; rfl, hw⟩
        clear hg HC HD
        go_wp2_with (go_at_call 18; refine HC'.out.mono ?_; rintro e w' ⟨rfl, rfl⟩)
        go_ret2
        have q := ga_stop HGA.out hlt hf HN.out (by decide)
        unfold GaPost
        rw [q]
        exact ⟨none, 0, rfl, ⟨Sl.nil, by simp⟩, hbel⟩
      · have HN := Lib.hid hg
        have HC' : Hid (Calls Try.prog 18 #[.slice (some ⟨b, off + p, none⟩) (xs.length - p) (c - p)] wr (fun e w' => e = .returned (.tuple #[.int .i64 0, .int .i64 0, .int .i64 3]) ∧ wr = w')) :=
          HC.out.mono fun _ _ ⟨he, hw⟩ => ⟨by rw [he, hg]; rfl, hw⟩
        clear hg HC HD
        go_wp2_with (go_at_call 18; refine HC'.out.mono ?_; rintro e w' ⟨rfl, rfl⟩)
        go_ret2
        have q := ga_stop HGA.out hlt hf HN.out (by decide)
        unfold GaPost
        rw [q]
        exact ⟨none, 0, rfl, ⟨Sl.nil, by simp⟩, hbel⟩
    · go_wp2
      go_ret2
      have q := ga_fin HGA.out hlt
      unfold GaPost
      rw [q]
      obtain ⟨A', c', rfl, hs'⟩ := own_slice hown
      exact ⟨A', c', rfl, hs', hbel⟩

set_option maxHeartbeats 800000 in
theorem rgetall_any (A : Option Addr) (c : Nat) (xs : List Int) (w : World) (hl : xs.length ≤ 100000) (hc : xs.length ≤ c) (hs : Sl w w.heap.size .u8 A xs) (hx : ∀ x ∈ xs, 0 ≤ x ∧ x ≤ 255) :
    Calls Try.prog 21 #[.slice A xs.length c] w (GaPost w xs) := by
  obtain ⟨i0, hi, hz0, hz1, hz2⟩ := info_parts info3
  have HX := Lib.hid hx
  clear hx
  go_enter Try.func21, Try.ntmps21
  go_wp2
  go_loopw [4, 5] (fun v i wr => GaRel w xs v i wr) (fun _ i _ => xs.length - (intOf i).toNat)
  case atStart => exact ⟨0, xs.length, [], by omega, rfl, by omega, by simp, (ga_err _ _).symm, World.ownsRow_nil _ _ _ _, Below.refl _ _⟩
  case round =>
    obtain ⟨p, f, acc, hp, rfl, hf, hacc, hga, hown, hbel⟩ := hrel
    have HGA := Lib.hid hga
    have hsz := hbel.size
    clear hga
    by_cases hlt : p < xs.length
    · obtain ⟨b, off, rfl, hb, hcell⟩ := hs.at_ hlt
      have hne : ¬ c = p := by omega
      have hpc : p ≤ c := by omega
      clear hcell
      have HC := Lib.hid (rget_any (some ⟨b, off + p, none⟩) (c - p) (xs.drop p) wr w.heap.size (by rw [List.length_drop]; omega) ((hs.below hbel).drop p) (fun x hx => HX.out x (List.mem_of_mem_drop hx)))
      rw [List.length_drop] at HC
      have HD : Hid (∀ x ∈ xs.drop p, 0 ≤ x ∧ x ≤ 255) := fun x hx => HX.out x (List.mem_of_mem_drop hx)
      rcases gt_err (xs.drop p) 0 0 with hg | hg | hg
      · obtain ⟨n, k, hnk⟩ : ∃ n k, gt 0 0 (xs.drop p) = (n, k, 0) := ⟨(gt 0 0 (xs.drop p)).1, (gt 0 0 (xs.drop p)).2.1, Prod.ext rfl (Prod.ext rfl hg)⟩
        obtain ⟨k0, k1, n0, n1, _⟩ := gt_once HD.out hnk
        rw [List.length_drop] at k1
        have HN := Lib.hid hnk
        have HC' : Hid (Calls Try.prog 19 #[.slice (some ⟨b, off + p, none⟩) (xs.length - p) (c - p)] wr (fun e w' => e = .returned (.tuple #[.int .i64 n, .int .i64 (k : Int), .int .i64 0]) ∧ wr = w')) :=
          HC.out.mono fun _ _ ⟨he, hw⟩ => ⟨by rw [he, hnk]; rfl, hw⟩
        clear hg hnk HC HD
        go_wp2_with (first | (go_at_call 19; refine HC'.out.mono ?_; rintro e w' ⟨rfl, rfl⟩) | (at_builtin; refine wpList_append_own _ rfl _ _ 22 rfl w.heap.size 3 i0 (.int .i64 0) 1 8 Try.underlying22 hi hz0 hz1 hz2 rfl (by decide) _ _ _ rfl (hown.alloc _) ⟨wr.heap.size, 0, none⟩ 1 1 [.int .i64 n] rfl rfl (cell_one_new _ _ _) (ints_one .i64 [n]) (by unfold maxLen; omega) (by omega) (by simp; omega) ?_; intro v' w1 hown' hgrow _))
        go_roundw
        case rel => exact ⟨p + k, f - 1, acc ++ [n], by omega, by go_num, by omega, by simp; omega, ga_next HGA.out hlt hf HN.out, by simpa using hown', (hbel.alloc hsz _).grown hgrow (by simp; omega) (fun j hj => (hown.lt j hj).1)⟩
        case measure => simp [intOf]; omega
      · have HN := Lib.hid hg
        have HC' : Hid (Calls Try.prog 19 #[.slice (some ⟨b, off + p, none⟩) (xs.length - p) (c - p)] wr (fun e w' => e = .returned (.tuple #[.int .i64 0, .int .i64 0, .int .i64 2]) ∧ wr = w')) :=
          HC.out.mono fun _ _ ⟨he, hw⟩ => ⟨by rw [he, hg]; rfl, hw⟩
        clear hg HC HD
        go_wp2_with (go_at_call 19; refine HC'.out.mono ?_; rintro e w' ⟨rfl, rfl⟩)
        go_ret2
        have q := ga_stop HGA.out hlt hf HN.out (by decide)
        unfold GaPost
        rw [q]
        exact ⟨none, 0, rfl, ⟨Sl.nil, by simp⟩, hbel⟩
      · have HN := Lib.hid hg
        have HC' : Hid (Calls Try.prog 19 #[.slice (some ⟨b, off + p, none⟩) (xs.length - p) (c - p)] wr (fun e w' => e = .returned (.tuple #[.int .i64 0, .int .i64 0, .int .i64 3]) ∧ wr = w')) :=
          HC.out.mono fun _ _ ⟨he, hw⟩ => ⟨by rw [he, hg]; rfl, hw⟩
        clear hg HC HD
        go_wp2_with (go_at_call 19; refine HC'.out.mono ?_; rintro e w' ⟨rfl, rfl⟩)
        go_ret2
        have q := ga_stop HGA.out hlt hf HN.out (by decide)
        unfold GaPost
        rw [q]
        exact ⟨none, 0, rfl, ⟨Sl.nil, by simp⟩, hbel⟩
    · go_wp2
      go_ret2
      have q := ga_fin HGA.out hlt
      unfold GaPost
      rw [q]
      obtain ⟨A', c', rfl, hs'⟩ := own_slice hown
      exact ⟨A', c', rfl, hs', hbel⟩

end Go.Proofs.Ytgfhjhgahddmnaa
