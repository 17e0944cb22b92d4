/-
  The walk of the statements' own first step ('awake'): the chapter's two examples come out as they should. No conditions.
-/
import Derived.Test.YtaijfnjlhpfbpaaDrop
import Derived.Lib.SlBytesConst
namespace Go.Proofs.Ytaijfnjlhpfbpaa
open Go.RowKit

def wiki : List Int := [87, 105, 107, 105, 112, 101, 100, 105, 97]
theorem sm_nil : sm [] = 1 := by decide
theorem sm_wiki : sm wiki = 300286872 := by decide

def UpPost (w : World) (e : Ending) (w' : World) : Prop := e = .returned (.bool true) ∧ Below w.heap.size w w'

theorem wiki_sl (W : World) : Sl (W.alloc (.cells #[.int .u8 87, .int .u8 105, .int .u8 107, .int .u8 105, .int .u8 112, .int .u8 101, .int .u8 100, .int .u8 105, .int .u8 97] 5 (9, 10))) (W.heap.size + 1) .u8 (some ⟨W.heap.size, 0, none⟩) wiki :=
  .inr ⟨W.heap.size, 0, rfl, by omega, fun j x hx => by
    rw [Nat.zero_add, World.cell?_alloc_mark]
    have : (#[.int .u8 87, .int .u8 105, .int .u8 107, .int .u8 105, .int .u8 112, .int .u8 101, .int .u8 100, .int .u8 105, .int .u8 97] : Array Value) = (wiki.map (Value.int .u8)).toArray := rfl
    rw [this]
    simp [hx]⟩

set_option maxHeartbeats 400000 in
theorem awake_any (w : World) : Calls Try.prog 10 #[] w (UpPost w) := by
  have H0 : Hid (Calls Try.prog 11 #[.slice none 0 0] w (U32Post w 1)) := by
    refine (sum_any none 0 [] w (by simp) Sl.nil (by simp)).mono fun e w' ⟨he, hb⟩ => ⟨?_, hb⟩
    rw [he, sm_nil]
  have H1 : ∀ W : World, Hid (Calls Try.prog 11 #[.slice (some ⟨W.heap.size, 0, none⟩) 9 9] (W.alloc (.cells #[.int .u8 87, .int .u8 105, .int .u8 107, .int .u8 105, .int .u8 112, .int .u8 101, .int .u8 100, .int .u8 105, .int .u8 97] 5 (9, 10)))
      (U32Post (W.alloc (.cells #[.int .u8 87, .int .u8 105, .int .u8 107, .int .u8 105, .int .u8 112, .int .u8 101, .int .u8 100, .int .u8 105, .int .u8 97] 5 (9, 10))) 300286872)) := fun W => by
    refine (sum_any (some ⟨W.heap.size, 0, none⟩) 9 wiki _ (by decide) ((wiki_sl W).mono (by simp)) (by decide)).mono fun e w' ⟨he, hb⟩ => ⟨?_, hb⟩
    rw [he, sm_wiki]
  have kc := fun (w : World) (C : Array Value) (n c : Nat) => Lib.run_convert_bytes_const (P := Try.prog) w 22 5 C n c Try.underlying22 Try.underlying5
  go_enter Try.func10, Try.ntmps10
  go_wp2_with fail
  refine H0.out.mono ?_
  rintro e w1 ⟨rfl, hb1⟩
  go_wp2_with fail
  refine (H1 _).out.mono ?_
  rintro e w2 ⟨rfl, hb2⟩
  go_wp2_with fail
  go_ret
  exact ⟨rfl, (hb1.alloc hb1.size _).trans (hb2.mono (by have := hb1.size; simp; omega))⟩

end Go.Proofs.Ytaijfnjlhpfbpaa
