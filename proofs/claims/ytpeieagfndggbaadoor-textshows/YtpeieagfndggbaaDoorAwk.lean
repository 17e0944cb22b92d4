/-
  The walk of the statements' own first step ('awake'). Conditions: that the tables read as their initialisers lay them.
-/
import Derived.Test.YtpeieagfndggbaaDoorOpen
import Derived.Test.YtpeieagfndggbaaDoorSh2
namespace Go.Proofs.YtpeieagfndggbaaDoor
open Go.RowKit Tx
attribute [local go_sem ↓ high] eq24 guard24

abbrev s1 : ByteArray := ⟨#[47, 112, 111, 115, 116, 32, 51, 32, 104, 101, 108, 108, 111, 32, 121, 111, 117]⟩
abbrev s2 : ByteArray := ⟨#[47, 106, 111, 105, 110, 32, 48, 51]⟩
abbrev s3 : ByteArray := ⟨#[47, 101, 100, 105, 116, 32, 49]⟩
set_option maxRecDepth 100000 in
theorem p1 : parse (nt s1) = (⟨4, 3, 0, [104, 101, 108, 108, 111, 32, 121, 111, 117]⟩, 0) := by
  rfl
set_option maxRecDepth 100000 in
theorem p2 : parse (nt s2) = (⟨0, 0, 0, []⟩, 2) := by rfl
set_option maxRecDepth 100000 in
theorem p3 : parse (nt s3) = (⟨0, 0, 0, []⟩, 2) := by rfl
theorem cx_new' (w : World) (u s k h n : Int) (t : ByteArray) : Cx (w.alloc (.cells #[.int .i64 u, .int .i64 s, .int .i64 k, .int .i64 h, .int .i64 n, .string t] 24)) w.heap.size u s k h n t := nalloc_new w _
theorem awake_any (w : World) (hN : Nd w) : Calls Tryd.prog 9 #[] w (UpPost w) := by
  have H1 := Lib.hid (parse_any s1 w (by decide) hN)
  have H2 : ∀ W, Nd W → Hid (Calls Tryd.prog 10 #[.string s2] W (PaPost W ⟨0, 0, 0, []⟩ 2)) := fun W h => by have := parse_any s2 W (by decide) h; rw [p2] at this; exact this
  have H3 : ∀ W, Nd W → Hid (Calls Tryd.prog 10 #[.string s3] W (PaPost W ⟨0, 0, 0, []⟩ 2)) := fun W h => by have := parse_any s3 W (by decide) h; rw [p3] at this; exact this
  rw [p1] at H1
  go_enter Tryd.func9, Tryd.ntmps9
  go_wp2_with fail
  refine H1.out.mono ?_
  rintro e w1 ⟨⟨t, ht, rfl⟩, b1⟩
  obtain rfl : t = ⟨#[104, 101, 108, 108, 111, 32, 121, 111, 117]⟩ := nt_inj ht
  clear ht H1
  go_wp2_with fail
  have c1 := cx_new' w1 0 0 4 3 0 ⟨#[104, 101, 108, 108, 111, 32, 121, 111, 117]⟩
  have b2 := b1.alloc b1.size (.cells #[.int .i64 0, .int .i64 0, .int .i64 4, .int .i64 3, .int .i64 0, .string ⟨#[104, 101, 108, 108, 111, 32, 121, 111, 117]⟩] 24)
  generalize w1.alloc (.cells #[.int .i64 0, .int .i64 0, .int .i64 4, .int .i64 3, .int .i64 0, .string ⟨#[104, 101, 108, 108, 111, 32, 121, 111, 117]⟩] 24) = w2 at *
  refine (H2 _ (hN.on b2)).out.mono ?_
  rintro e w3 ⟨⟨t, ht, rfl⟩, b3⟩
  obtain rfl : t = ⟨#[]⟩ := nt_inj ht
  have c2 := c1.on b3 c1.lt
  have b4 := b2.trans (b3.mono b2.size)
  clear c1 b2 b3 ht H2
  go_wp2_with fail
  have c3 := c2.on ((Below.refl _ _).alloc (Nat.le_refl _) (.cells #[.int .i64 0, .int .i64 0, .int .i64 0, .int .i64 0, .int .i64 0, .string ⟨#[]⟩] 24)) c2.lt
  have b5 := b4.alloc b4.size (.cells #[.int .i64 0, .int .i64 0, .int .i64 0, .int .i64 0, .int .i64 0, .string ⟨#[]⟩] 24)
  generalize w3.alloc (.cells #[.int .i64 0, .int .i64 0, .int .i64 0, .int .i64 0, .int .i64 0, .string ⟨#[]⟩] 24) = w4 at *
  refine (H3 _ (hN.on b5)).out.mono ?_
  rintro e w5 ⟨⟨t, ht, rfl⟩, b6⟩
  obtain rfl : t = ⟨#[]⟩ := nt_inj ht
  have c4 := c3.on b6 c3.lt
  have b7 := b5.trans (b6.mono b5.size)
  have hlt := c4.lt
  obtain ⟨d0, d1, d2, d3, d4, d5⟩ := c4.cl
  clear c3 b5 b6 ht H3 c2 b4
  go_wp2
  go_ret
  exact ⟨rfl, b7.alloc b7.size _⟩
theorem pa_none {w : World} {x : Nat} {e : Ending} {w' : World} (h : PaPost w Co.none x e w') : e = .returned (.tuple #[cv 0 0 0 0 0 ⟨#[]⟩, .int .i64 x]) ∧ Below w.heap.size w w' := by
  obtain ⟨⟨t, ht, rfl⟩, hb⟩ := h
  obtain rfl : t = ⟨#[]⟩ := nt_inj ht
  exact ⟨rfl, hb⟩
end Go.Proofs.YtpeieagfndggbaaDoor
