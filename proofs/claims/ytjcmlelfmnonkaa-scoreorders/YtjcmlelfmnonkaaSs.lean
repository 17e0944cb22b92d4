/-
  sort.SliceStable at this translation, over a slice of numbers of the caller's own, by the closure of score.Sort: at most 60 numbers are put in order, and those that are just as great stay as they stood. Conditions: at most 60.
-/
import Derived.Test.YtjcmlelfmnonkaaSd
import Derived.Test.YtjcmlelfmnonkaaMm
import Derived.Shelf.GgSortMore.Stable
namespace Go.Proofs.Ytjcmlelfmnonkaa
open Go.Shelf Go.RowKit Go.Lib Go.Sort Go.Proofs.Ytjcmlelfmnonkaa.Fl
set_option linter.unusedVariables false
set_option maxRecDepth 100000

set_option maxHeartbeats 1000000 in
theorem less_row (blk off c X size : Nat) (W : World) (g : Nat → Nat) (hg : ∀ t, t < size → g t < 18446744073709551616) (hs : W.cell? ⟨X, 0, none⟩ = some (.slice (some ⟨blk, off, none⟩) size c))
    (hc : ∀ t, t < size → W.cell? ⟨blk, off + t, none⟩ = some (.int .u64 (g t : Int))) (i j : Nat) (hi : i < size) (hj : j < size) (hz : size < 1152921504606846976) :
    Calls Try.prog 33 #[.int .i64 (i : Int), .int .i64 (j : Int), .pointer (some ⟨X, 0, none⟩)] W fun e w' => e = .returned (.bool (lt (g i) (g j))) ∧ ∃ q, w' = W.drewN q := by
  have ci := hc i hi
  have cj := hc j hj
  have HC : ∀ V, Hid (Calls Try.prog 22 #[.int .u64 (g i : Int), .int .u64 (g j : Int)] V fun e w1 => e = .returned (.int .i64 (cmp (g i) (g j))) ∧ w1 = V) := fun V => cmp_any (g i) (g j) (hg i hi) (hg j hj) V
  have hl : lt (g i) (g j) = decide (cmp (g i) (g j) < 0) := by
    unfold lt cmp
    by_cases h : rank (g i) < rank (g j)
    · rw [if_pos h, decide_eq_true h]; rfl
    · rw [if_neg h, decide_eq_false h]
      split <;> rfl
  rw [hl]
  clear hl hc hg
  generalize cmp (g i) (g j) = C at *
  go_enter Try.func33, Try.ntmps33
  go_wp2
  go_quiet (((first | (go_at_call 22; with_reducible refine Calls.quiet_of_same (HC _).out))))
  go_wp2
  go_ret
  exact ⟨rfl, nq, rfl⟩
noncomputable def siT : TypeInfo := (Try.prog.info? 27).get (by kernel_rfl)
noncomputable def siE : TypeInfo := (Try.prog.info? 23).get (by kernel_rfl)
theorem siK (n : Nat) (h2 : 2 ≤ n) : Lib.swapperK n siE 11 = 5 := by
  have a : siE.hasPointers = false := by kernel_rfl
  have b : siE.bytes = 8 := by kernel_rfl
  have c : (n == 0) = false := by simp; omega
  have d : (n == 1) = false := by simp; omega
  simp [Lib.swapperK, a, b, c, d]
theorem en_one (x : Nat) : (en x).oneCell' = true := rfl

set_option maxHeartbeats 2000000 in
theorem ss_any (g c X n : Nat) (d : Array Nat) (hs : d.size = n) (h60 : n ≤ 60) (w : World) (hX : w.cell? ⟨X, 0, none⟩ = some (.slice (some ⟨g, 0, none⟩) n c)) (hXg : X ≠ g) (hXl : X < w.heap.size) (hH : Holds en w g 0 d) (hg : g < w.heap.size) :
    Hid (Calls Try.prog 32 #[.iface 27 (.slice (some ⟨g, 0, none⟩) n c), .func (.func 33) #[] #[.pointer (some ⟨X, 0, none⟩)]] w (SPost w g 0 n (Mg d 0 n))) := by
  refine Lib.hid ?_
  by_cases h2 : 2 ≤ n
  · have hless : LessReads Try.prog 33 #[.pointer (some ⟨X, 0, none⟩)] en ltk g 0 n w := by
      intro m os dk hsk i j hi hj
      have e : SW en w g 0 dk (sortWorld en w g 0 m dk os) := ⟨m, os, rfl⟩
      have hHk := e.holds hg hH (by rw [hsk, hs])
      refine less_row g 0 c X n _ (fun t => md dk[t]!) (fun t ht => Nat.mod_lt _ (by omega)) ?_ (fun t ht => ?_) i j hi hj (by omega)
      · rw [sw_cell e hXg hXl]; exact hX
      · exact (hHk t (by omega)).1
    have R : Rdy #[.pointer (some ⟨X, 0, none⟩)] #[.slice (some ⟨g, 0, none⟩) n c, typeHandle Try.prog 23] g 0 n w := by
      refine ⟨hless, ?_, hg⟩
      exact swapSwaps_of_literal true 50 (fun args W => run_callFunc_extern Try.func50 (by kernel_rfl) (by kernel_rfl) (by kernel_rfl) (e := Extern.ReflectliteSwapper.swap true) (by kernel_rfl) args W) 23 siE (by kernel_rfl) (by kernel_rfl) (fun _ => by kernel_rfl) en en_one g 0 n c
    have hp := (stable_any _ _ g 0 n h60 d hs (stableWorld Try.prog Try.sl8_ren 27 (some ⟨g, 0, none⟩) n c w) ((R.box _).box _) (holds_box (R.box _).blt (holds_box hg hH _) _)).out
    have hb : sliceBound Try.prog 23 siE 11 (some ⟨g, 0, none⟩) n c = #[.slice (some ⟨g, 0, none⟩) n c, typeHandle Try.prog 23] := by unfold sliceBound; rw [if_neg (swapperK_gt _ _ _ h2)]
    have hS := Any.sort_SliceStable_of_stable Try.sl8 27 23 siT siE (by kernel_rfl) (by kernel_rfl) (by kernel_rfl) (by kernel_rfl) 11 (fun _ => by kernel_rfl) (some ⟨g, 0, none⟩) n c (by omega) 50 (by rw [siK n h2]; kernel_rfl) (.func 33) #[] #[.pointer (some ⟨X, 0, none⟩)] w
      (fun w' => ∃ d' : Array Nat, d'.size = n ∧ Mg d 0 n d' ∧ SW en w g 0 d' w') (by
        rw [hb]
        refine hp.mono ?_
        rintro e w' ⟨he, d', s', m', z'⟩
        exact ⟨he, d', s', m', sw_base hg (sw_base (R.box _).blt z')⟩)
    exact hS
  · have hm : Mg d 0 n d := ⟨St.Same.refl _ _ _, fun i j _ hij hj => by
      have : i = j := by omega
      subst this
      exact Nat.le_refl _⟩
    have fin : ∀ os, SW en w g 0 d (grow w os) := fun os => ⟨0, os, by unfold sortWorld; rw [Sort.ahead_zero, putRow_self _ _ _ _ _ hH]⟩
    rcases (by omega : n = 0 ∨ n = 1) with h | h
    · subst h
      have hS := Any.sort_SliceStable_tiny Try.sl8 27 23 siT siE (by kernel_rfl) (by kernel_rfl) (by kernel_rfl) (by kernel_rfl) 11 (fun _ => by kernel_rfl) (some ⟨g, 0, none⟩) 0 c (by omega) 46 (by kernel_rfl) (.func 33) #[] #[.pointer (some ⟨X, 0, none⟩)] w
      refine hS.mono ?_
      rintro e w' ⟨he, os, rfl⟩
      exact ⟨he, d, hs, hm, fin os⟩
    · subst h
      have hS := Any.sort_SliceStable_tiny Try.sl8 27 23 siT siE (by kernel_rfl) (by kernel_rfl) (by kernel_rfl) (by kernel_rfl) 11 (fun _ => by kernel_rfl) (some ⟨g, 0, none⟩) 1 c (by omega) 47 (by kernel_rfl) (.func 33) #[] #[.pointer (some ⟨X, 0, none⟩)] w
      refine hS.mono ?_
      rintro e w' ⟨he, os, rfl⟩
      exact ⟨he, d, hs, hm, fin os⟩
end Go.Proofs.Ytjcmlelfmnonkaa
