/-
  The walks of the document's Merge of two, and of All. Conditions: at most 1000 deps, at most 1000 attributes.
-/
import Derived.Test.YtiedagbboednkaaMg
namespace Go.Proofs.Ytiedagbboednkaa
open Go.RowKit
set_option linter.unusedVariables false

theorem own_below {w w' : World} {base e s n : Nat} {v : Value} {xs : List Value} (h : w.ownsRow base e s v n xs) (hb : Below w.heap.size w w') : w'.ownsRow base e s v n xs :=
  h.kept (row := none) ⟨hb.os, hb.tape, hb.output, hb.size, fun q hq _ => hb.block q hq⟩ (by cases Value.ownBlock _ <;> simp)
theorem own_set {w : World} {base e s n M : Nat} {v : Value} {xs : List Value} (h : w.ownsRow base e s v n xs) (hM : M < base) (i : Nat) (u : Value) : (w.setCell ⟨M, i, none⟩ u).ownsRow base e s v n xs := by
  refine h.kept (row := some M) ⟨rfl, rfl, rfl, by simp, fun q hq hne => Below.heap_setCell w _ u q (fun he => hne (by rw [he]))⟩ ?_
  rcases hv : v.ownBlock with _ | q
  · exact .inl rfl
  · have := (h.lt q hv).1
    exact .inr (fun he => by simp at he; omega)
theorem Ax.grown {w w' : World} {B base e s n m c : Nat} {a : Int} {A : Option Addr} {v : Value} {xs : List Value} (h : Ax w B a A m c) (hown : w.ownsRow base e s v n xs) (hg : w.grownBy w' v.ownBlock) (hB : B < base) : Ax w' B a A m c :=
  (hg.block B h.lt (fun he => by have := (hown.lt B he.symm).1; omega)).trans h
theorem run_res25 {V : World} {tm : Array Value} {B : Nat} {a : Int} {A : Option Addr} {n c : Nat} (h2 : tm[4]?.getD undef = .pointer (some ⟨B, 0, none⟩)) (hb : Rb V B a A n c) :
    (results Try.f25 tm).run Try.prog V = .ok (.agg #[.int .i64 a, .slice A n c]) V := by
  obtain ⟨c0, c1⟩ := hb
  simp [results, Try.results25, h2, go_sem, c0, c1]
theorem run_res20 {V : World} {tm : Array Value} {B : Nat} {a : Int} {A : Option Addr} {n c : Nat} (h2 : tm[2]?.getD undef = .pointer (some ⟨B, 0, none⟩)) (hb : Rb V B a A n c) :
    (results Try.f20 tm).run Try.prog V = .ok (.agg #[.int .i64 a, .slice A n c]) V := by
  obtain ⟨c0, c1⟩ := hb
  simp [results, Try.results20, h2, go_sem, c0, c1]

/-- What the document's Merge holds at the head of its loop: its two arguments, what it gives, and what it has so far. -/
def Jr (w wr : World) (a b s : Int) (A A' : Option Addr) (c c' : Nat) (xs ys : List Int) (k : Nat) : Prop :=
  ∃ (E : Option Addr) (m d : Nat), Ax wr w.heap.size a A xs.length c ∧ Ax wr (w.heap.size + 1) b A' ys.length c' ∧ Ax wr (w.heap.size + 1 + 1) 0 none 0 0 ∧ Ax wr (w.heap.size + 1 + 1 + 1) s E m d ∧
    wr.ownsRow (w.heap.size + 4) 3 1 (.slice E m d) k (((jn xs ys).take k).map (Value.int .i64)) ∧ Below w.heap.size w wr ∧ w.heap.size + 4 ≤ wr.heap.size

/-- The row is of the call's own. -/
def Fr (B : Nat) (A : Option Addr) (zs : List Int) : Prop := zs = [] ∨ ∃ b off, A = some ⟨b, off, none⟩ ∧ B ≤ b
theorem fr_le {B B' : Nat} {A : Option Addr} {zs : List Int} (h : Fr B A zs) (hB : B' ≤ B) : Fr B' A zs := h.imp id fun ⟨b, off, h1, h2⟩ => ⟨b, off, h1, by omega⟩
def FrPost (w : World) (a : Int) (xs : List Int) (e : Ending) (w' : World) : Prop := ∃ A c, e = .returned (.agg #[.int .i64 a, .slice A xs.length c]) ∧ Sl w' w'.heap.size .i64 A xs ∧ Below w.heap.size w w' ∧ Fr w.heap.size A xs
theorem own_fresh {w : World} {base : Nat} {e : TypeId} {k : IntKind} {v : Value} {xs : List Int} (h : w.ownsRow base e 1 v xs.length (xs.map (Value.int k))) :
    ∃ A c, v = .slice A xs.length c ∧ Sl w w.heap.size k A xs ∧ Fr base A xs := by
  obtain ⟨A, c, rfl, hs, _⟩ := own_slice h
  refine ⟨A, c, rfl, hs, ?_⟩
  rcases h.2 with ⟨_, h0⟩ | ⟨g, cap, cur, hv, hg, _⟩
  · exact .inl (List.length_eq_zero_iff.1 h0)
  · simp only [Value.slice.injEq] at hv
    exact .inr ⟨g, 0, hv.1, hg⟩

theorem jn_own {w : World} {base k : Nat} {v : Value} {xs ys : List Int} {m d : Int} (ht : (jn xs ys).take (k + 1) = (jn xs ys).take k ++ [m]) (hd : m = d) (h : w.ownsRow base 3 1 v (k + 1) (((jn xs ys).take k).map (Value.int .i64) ++ [.int .i64 d])) :
    ∃ E n c, v = .slice E n c ∧ w.ownsRow base 3 1 (.slice E n c) (k + 1) (((jn xs ys).take (k + 1)).map (Value.int .i64)) := by
  subst hd
  rw [ht, List.map_append]
  rcases h.2 with ⟨_, h0⟩ | ⟨g, cap, cur, rfl, _⟩
  · omega
  · exact ⟨_, _, _, rfl, h⟩

theorem jr_new (w : World) (a b s : Int) (A A' : Option Addr) (c c' : Nat) (xs ys : List Int) : Jr w ((((w.alloc (.cells #[.int .i64 a, .slice A xs.length c] 24)).alloc (.cells #[.int .i64 b, .slice A' ys.length c'] 24)).alloc (.cells #[.int .i64 0, .slice none 0 0] 24)).alloc (.cells #[.int .i64 s, .slice none 0 0] 24)) a b s A A' c c' xs ys 0 := by
  have z1 : (w.alloc (.cells #[.int .i64 a, .slice A xs.length c] 24)).heap.size = w.heap.size + 1 := by simp
  have n1 := ax_new w a A xs.length c
  have b1 : Below w.heap.size w (w.alloc (.cells #[.int .i64 a, .slice A xs.length c] 24)) := (Below.refl _ _).alloc (Nat.le_refl _) _
  generalize w.alloc (.cells #[.int .i64 a, .slice A xs.length c] 24) = w1 at *
  have z2 : (w1.alloc (.cells #[.int .i64 b, .slice A' ys.length c'] 24)).heap.size = w1.heap.size + 1 := by simp
  have n2 := ax_new w1 b A' ys.length c'
  have m1 := n1.old (.cells #[.int .i64 b, .slice A' ys.length c'] 24)
  have b2 := b1.alloc b1.size (.cells #[.int .i64 b, .slice A' ys.length c'] 24)
  generalize w1.alloc (.cells #[.int .i64 b, .slice A' ys.length c'] 24) = w2 at *
  have z3 : (w2.alloc (.cells #[.int .i64 0, .slice none 0 0] 24)).heap.size = w2.heap.size + 1 := by simp
  have n3 := ax_new w2 0 none 0 0
  have l1 := m1.old (.cells #[.int .i64 0, .slice none 0 0] 24)
  have l2 := n2.old (.cells #[.int .i64 0, .slice none 0 0] 24)
  have b3 := b2.alloc b2.size (.cells #[.int .i64 0, .slice none 0 0] 24)
  generalize w2.alloc (.cells #[.int .i64 0, .slice none 0 0] 24) = w3 at *
  have n4 := ax_new w3 s none 0 0
  have b4 := b3.alloc b3.size (.cells #[.int .i64 s, .slice none 0 0] 24)
  refine ⟨none, 0, 0, l1.old _, ?_, ?_, ?_, World.ownsRow_nil _ _ _ _, b4, by simp; omega⟩
  · have := l2.old (.cells #[.int .i64 s, .slice none 0 0] 24); rw [z1] at this; exact this
  · have := n3.old (.cells #[.int .i64 s, .slice none 0 0] 24); rw [z2, z1] at this; exact this
  · rw [z3, z2, z1] at n4; exact n4

set_option maxHeartbeats 8000000 in
theorem rmerge1 (a b : Int) (A A' : Option Addr) (c c' : Nat) (xs ys : List Int) (w : World) (hx : Sl w w.heap.size .i64 A xs) (hy : Sl w w.heap.size .i64 A' ys) (lx : xs.length ≤ 1000) (ly : ys.length ≤ 1000) (ha : 0 < a) (hb : a < b) : Calls Try.prog 25 #[.agg #[.int .i64 a, .slice A xs.length c], .agg #[.int .i64 b, .slice A' ys.length c']] w (FrPost w (max (max 0 a) b) (jn xs ys)) := by
  obtain ⟨i0, hi, hz0, hz1, hz2⟩ := info_parts info3
  rw [show max (max 0 a) b = b by omega]
  have BW : Below w.heap.size w ((((w.alloc (.cells #[.int .i64 a, .slice A xs.length c] 24)).alloc (.cells #[.int .i64 b, .slice A' ys.length c'] 24)).alloc (.cells #[.int .i64 0, .slice none 0 0] 24)).alloc (.cells #[.int .i64 0, .slice none 0 0] 24)) := ((((Below.refl _ _).alloc (Nat.le_refl _) _).alloc (by simp) _).alloc (by simp; omega) _).alloc (by simp; omega) _
  go_enter Try.func25, Try.ntmps25
  go_wp2
  have J0 := jr_new w a b b A A' c c' xs ys
  generalize (((((w.alloc (.cells #[.int .i64 a, .slice A xs.length c] 24)).alloc (.cells #[.int .i64 b, .slice A' ys.length c'] 24))).alloc (.cells #[.int .i64 0, .slice none 0 0] 24)).alloc (.cells #[.int .i64 b, .slice none 0 0] 24)) = W0 at *
  clear BW
  go_loopw [6] (fun i wr => ∃ k : Nat, k ≤ max xs.length ys.length ∧ i = .int .i64 ((k : Int) + 1) ∧ Jr w wr a b (b) A A' c c' xs ys k) (fun i _ => 1002 - (intOf i).toNat)
  case atStart => exact ⟨0, by omega, rfl, J0⟩
  case round =>
    obtain ⟨k, hk, rfl, E, m, d, hC, hD, hX, hM, hown, hbel, hsz⟩ := hrel
    have F0 := Below.refl wr.heap.size wr
    obtain ⟨p0, p1⟩ := hC.rb
    obtain ⟨r0, r1⟩ := hD.rb
    by_cases hlt : k < max xs.length ys.length
    · have HO : ∀ W, Below wr.heap.size wr W → Hid (Calls Try.prog 24 #[.agg #[.int .i64 a, .slice A xs.length c], .int .i64 ((k : Int) + 1)] W (IntPost W (xs.getD k 0))) := fun W hW => by
        have := dep_any a A c W.heap.size xs ((k : Int) + 1) W (Nat.le_refl _) ((hx.to hbel hbel.size).up hW) (by omega)
        rw [dp_at] at this
        exact this
      have HP : ∀ W, Below wr.heap.size wr W → Hid (Calls Try.prog 24 #[.agg #[.int .i64 b, .slice A' ys.length c'], .int .i64 ((k : Int) + 1)] W (IntPost W (ys.getD k 0))) := fun W hW => by
        have := dep_any b A' c' W.heap.size ys ((k : Int) + 1) W (Nat.le_refl _) ((hy.to hbel hbel.size).up hW) (by omega)
        rw [dp_at] at this
        exact this
      have HTk := Lib.hid (jn_take xs ys hlt)
      have HXO : xs.length ≤ k → xs.getD k 0 = 0 := fun h => getD_out h
      generalize xs.getD k 0 = x at *
      generalize ys.getD k 0 = y at *
      by_cases g1 : (k : Int) + 1 ≤ (xs.length : Int)
      · clear HXO
        by_cases hx0 : 0 < x
        · by_cases hy0 : x < y
          · go_wp2_with fail
            refine (HO _ F0).out.mono ?_
            rintro e w1 ⟨rfl, B1⟩
            have F1 := F0.trans (B1.mono F0.size)
            obtain ⟨p0, p1⟩ := (hC.on F1 (by omega)).rb
            obtain ⟨r0, r1⟩ := (hD.on F1 (by omega)).rb
            go_wp2_with fail
            refine (HO _ F1).out.mono ?_
            rintro e w2 ⟨rfl, B2⟩
            have F2 := F1.trans (B2.mono F1.size)
            obtain ⟨p0, p1⟩ := (hC.on F2 (by omega)).rb
            obtain ⟨r0, r1⟩ := (hD.on F2 (by omega)).rb
            go_wp2_with fail
            refine (HP _ F2).out.mono ?_
            rintro e w3 ⟨rfl, B3⟩
            have F3 := F2.trans (B3.mono F2.size)
            obtain ⟨p0, p1⟩ := (hC.on F3 (by omega)).rb
            obtain ⟨r0, r1⟩ := (hD.on F3 (by omega)).rb
            go_wp2_with fail
            refine (HP _ F3).out.mono ?_
            rintro e w4 ⟨rfl, B4⟩
            have F4 := F3.trans (B4.mono F3.size)
            obtain ⟨p0, p1⟩ := (hC.on F4 (by omega)).rb
            obtain ⟨r0, r1⟩ := (hD.on F4 (by omega)).rb
            have M1 := hM.on F4 (by omega)
            have C1 := hC.on F4 (by omega)
            have D1 := hD.on F4 (by omega)
            have Y1 := hX.on F4 (by omega)
            have O1 := own_below hown F4
            have G1 := hbel.trans (F4.mono hbel.size)
            have z1 := F4.size
            obtain ⟨q0, q1⟩ := M1.rb
            have f1 := M1.free 1
            have hdd : Hid (max (max 0 x) y = y) := by show _ = _; omega
            clear HO HP hC hD hM hX hown hbel p0 p1 r0 r1 F0 F1 B1 F2 B2 F3 B3 F4 B4
            generalize w4 = V at *
            have CN : ∀ j u, [Value.int .i64 y][j]? = some u → (V.alloc (.cells #[.int .i64 y] 3)).cell? ((⟨V.heap.size, 0, none⟩ : Addr).add j) = some u := cell_one_new _ _ _
            have O2 := O1.alloc (.cells #[.int .i64 y] 3)
            have M2 := M1.old (.cells #[.int .i64 y] 3)
            have C2 := C1.old (.cells #[.int .i64 y] 3)
            have D2 := D1.old (.cells #[.int .i64 y] 3)
            have Y2 := Y1.old (.cells #[.int .i64 y] 3)
            have G2 := G1.alloc G1.size (.cells #[.int .i64 y] 3)
            have z2 : w.heap.size + 4 ≤ (V.alloc (.cells #[.int .i64 y] 3)).heap.size := by simp; omega
            go_wp2_with (at_builtin; refine wpList_append_own _ rfl (.tmp 56) (.tmp 58) 22 rfl (w.heap.size + 4) 3 i0 (.int .i64 0) 1 8 Try.underlying22 hi hz0 hz1 hz2 rfl (by decide) _ k (((jn xs ys).take k).map (Value.int .i64)) rfl O2 ⟨V.heap.size, 0, none⟩ 1 1 [.int .i64 y] rfl rfl CN (by intro u hu; simp at hu; subst hu; rfl) (by unfold maxLen; omega) (by omega) z2 ?_; intro v2 w9 hown9 hgrow9 _; have M9 := M2.grown O2 hgrow9 (by omega); have f9 := M9.free 1; have z9 := hgrow9.size; obtain ⟨E', m', c9, rfl, own9⟩ := jn_own HTk.out hdd.out hown9; obtain ⟨q2, q3⟩ := M9.rb)
            have C9 := C2.grown O2 hgrow9 (by omega)
            have D9 := D2.grown O2 hgrow9 (by omega)
            have Y9 := Y2.grown O2 hgrow9 (by omega)
            have G9 := G2.grown hgrow9 G2.size (fun q hq => by have := (O2.lt q hq).1; omega)
            go_roundw
            case rel =>
              exact ⟨k + 1, by omega, by go_num, E', m', c9, C9.other (by show w.heap.size ≠ w.heap.size + 1 + 1 + 1; omega) _, D9.other (by show w.heap.size + 1 ≠ w.heap.size + 1 + 1 + 1; omega) _, Y9.other (by show w.heap.size + 1 + 1 ≠ w.heap.size + 1 + 1 + 1; omega) _, M9.set1 _ _ _, own_set own9 (by omega) 1 _, G9.setCell (by show w.heap.size ≤ w.heap.size + 1 + 1 + 1; omega) _, by simp at z9 ⊢; omega⟩
            case measure => simp [intOf]; omega
          · go_wp2_with fail
            refine (HO _ F0).out.mono ?_
            rintro e w1 ⟨rfl, B1⟩
            have F1 := F0.trans (B1.mono F0.size)
            obtain ⟨p0, p1⟩ := (hC.on F1 (by omega)).rb
            obtain ⟨r0, r1⟩ := (hD.on F1 (by omega)).rb
            go_wp2_with fail
            refine (HO _ F1).out.mono ?_
            rintro e w2 ⟨rfl, B2⟩
            have F2 := F1.trans (B2.mono F1.size)
            obtain ⟨p0, p1⟩ := (hC.on F2 (by omega)).rb
            obtain ⟨r0, r1⟩ := (hD.on F2 (by omega)).rb
            go_wp2_with fail
            refine (HP _ F2).out.mono ?_
            rintro e w3 ⟨rfl, B3⟩
            have F3 := F2.trans (B3.mono F2.size)
            obtain ⟨p0, p1⟩ := (hC.on F3 (by omega)).rb
            obtain ⟨r0, r1⟩ := (hD.on F3 (by omega)).rb
            have M1 := hM.on F3 (by omega)
            have C1 := hC.on F3 (by omega)
            have D1 := hD.on F3 (by omega)
            have Y1 := hX.on F3 (by omega)
            have O1 := own_below hown F3
            have G1 := hbel.trans (F3.mono hbel.size)
            have z1 := F3.size
            obtain ⟨q0, q1⟩ := M1.rb
            have f1 := M1.free 1
            have hdd : Hid (max (max 0 x) y = x) := by show _ = _; omega
            clear HO HP hC hD hM hX hown hbel p0 p1 r0 r1 F0 F1 B1 F2 B2 F3 B3
            generalize w3 = V at *
            have CN : ∀ j u, [Value.int .i64 x][j]? = some u → (V.alloc (.cells #[.int .i64 x] 3)).cell? ((⟨V.heap.size, 0, none⟩ : Addr).add j) = some u := cell_one_new _ _ _
            have O2 := O1.alloc (.cells #[.int .i64 x] 3)
            have M2 := M1.old (.cells #[.int .i64 x] 3)
            have C2 := C1.old (.cells #[.int .i64 x] 3)
            have D2 := D1.old (.cells #[.int .i64 x] 3)
            have Y2 := Y1.old (.cells #[.int .i64 x] 3)
            have G2 := G1.alloc G1.size (.cells #[.int .i64 x] 3)
            have z2 : w.heap.size + 4 ≤ (V.alloc (.cells #[.int .i64 x] 3)).heap.size := by simp; omega
            go_wp2_with (at_builtin; refine wpList_append_own _ rfl (.tmp 56) (.tmp 58) 22 rfl (w.heap.size + 4) 3 i0 (.int .i64 0) 1 8 Try.underlying22 hi hz0 hz1 hz2 rfl (by decide) _ k (((jn xs ys).take k).map (Value.int .i64)) rfl O2 ⟨V.heap.size, 0, none⟩ 1 1 [.int .i64 x] rfl rfl CN (by intro u hu; simp at hu; subst hu; rfl) (by unfold maxLen; omega) (by omega) z2 ?_; intro v2 w9 hown9 hgrow9 _; have M9 := M2.grown O2 hgrow9 (by omega); have f9 := M9.free 1; have z9 := hgrow9.size; obtain ⟨E', m', c9, rfl, own9⟩ := jn_own HTk.out hdd.out hown9; obtain ⟨q2, q3⟩ := M9.rb)
            have C9 := C2.grown O2 hgrow9 (by omega)
            have D9 := D2.grown O2 hgrow9 (by omega)
            have Y9 := Y2.grown O2 hgrow9 (by omega)
            have G9 := G2.grown hgrow9 G2.size (fun q hq => by have := (O2.lt q hq).1; omega)
            go_roundw
            case rel =>
              exact ⟨k + 1, by omega, by go_num, E', m', c9, C9.other (by show w.heap.size ≠ w.heap.size + 1 + 1 + 1; omega) _, D9.other (by show w.heap.size + 1 ≠ w.heap.size + 1 + 1 + 1; omega) _, Y9.other (by show w.heap.size + 1 + 1 ≠ w.heap.size + 1 + 1 + 1; omega) _, M9.set1 _ _ _, own_set own9 (by omega) 1 _, G9.setCell (by show w.heap.size ≤ w.heap.size + 1 + 1 + 1; omega) _, by simp at z9 ⊢; omega⟩
            case measure => simp [intOf]; omega
        · by_cases hy0 : 0 < y
          · go_wp2_with fail
            refine (HO _ F0).out.mono ?_
            rintro e w1 ⟨rfl, B1⟩
            have F1 := F0.trans (B1.mono F0.size)
            obtain ⟨p0, p1⟩ := (hC.on F1 (by omega)).rb
            obtain ⟨r0, r1⟩ := (hD.on F1 (by omega)).rb
            go_wp2_with fail
            refine (HP _ F1).out.mono ?_
            rintro e w2 ⟨rfl, B2⟩
            have F2 := F1.trans (B2.mono F1.size)
            obtain ⟨p0, p1⟩ := (hC.on F2 (by omega)).rb
            obtain ⟨r0, r1⟩ := (hD.on F2 (by omega)).rb
            go_wp2_with fail
            refine (HP _ F2).out.mono ?_
            rintro e w3 ⟨rfl, B3⟩
            have F3 := F2.trans (B3.mono F2.size)
            obtain ⟨p0, p1⟩ := (hC.on F3 (by omega)).rb
            obtain ⟨r0, r1⟩ := (hD.on F3 (by omega)).rb
            have M1 := hM.on F3 (by omega)
            have C1 := hC.on F3 (by omega)
            have D1 := hD.on F3 (by omega)
            have Y1 := hX.on F3 (by omega)
            have O1 := own_below hown F3
            have G1 := hbel.trans (F3.mono hbel.size)
            have z1 := F3.size
            obtain ⟨q0, q1⟩ := M1.rb
            have f1 := M1.free 1
            have hdd : Hid (max (max 0 x) y = y) := by show _ = _; omega
            clear HO HP hC hD hM hX hown hbel p0 p1 r0 r1 F0 F1 B1 F2 B2 F3 B3
            generalize w3 = V at *
            have CN : ∀ j u, [Value.int .i64 y][j]? = some u → (V.alloc (.cells #[.int .i64 y] 3)).cell? ((⟨V.heap.size, 0, none⟩ : Addr).add j) = some u := cell_one_new _ _ _
            have O2 := O1.alloc (.cells #[.int .i64 y] 3)
            have M2 := M1.old (.cells #[.int .i64 y] 3)
            have C2 := C1.old (.cells #[.int .i64 y] 3)
            have D2 := D1.old (.cells #[.int .i64 y] 3)
            have Y2 := Y1.old (.cells #[.int .i64 y] 3)
            have G2 := G1.alloc G1.size (.cells #[.int .i64 y] 3)
            have z2 : w.heap.size + 4 ≤ (V.alloc (.cells #[.int .i64 y] 3)).heap.size := by simp; omega
            go_wp2_with (at_builtin; refine wpList_append_own _ rfl (.tmp 56) (.tmp 58) 22 rfl (w.heap.size + 4) 3 i0 (.int .i64 0) 1 8 Try.underlying22 hi hz0 hz1 hz2 rfl (by decide) _ k (((jn xs ys).take k).map (Value.int .i64)) rfl O2 ⟨V.heap.size, 0, none⟩ 1 1 [.int .i64 y] rfl rfl CN (by intro u hu; simp at hu; subst hu; rfl) (by unfold maxLen; omega) (by omega) z2 ?_; intro v2 w9 hown9 hgrow9 _; have M9 := M2.grown O2 hgrow9 (by omega); have f9 := M9.free 1; have z9 := hgrow9.size; obtain ⟨E', m', c9, rfl, own9⟩ := jn_own HTk.out hdd.out hown9; obtain ⟨q2, q3⟩ := M9.rb)
            have C9 := C2.grown O2 hgrow9 (by omega)
            have D9 := D2.grown O2 hgrow9 (by omega)
            have Y9 := Y2.grown O2 hgrow9 (by omega)
            have G9 := G2.grown hgrow9 G2.size (fun q hq => by have := (O2.lt q hq).1; omega)
            go_roundw
            case rel =>
              exact ⟨k + 1, by omega, by go_num, E', m', c9, C9.other (by show w.heap.size ≠ w.heap.size + 1 + 1 + 1; omega) _, D9.other (by show w.heap.size + 1 ≠ w.heap.size + 1 + 1 + 1; omega) _, Y9.other (by show w.heap.size + 1 + 1 ≠ w.heap.size + 1 + 1 + 1; omega) _, M9.set1 _ _ _, own_set own9 (by omega) 1 _, G9.setCell (by show w.heap.size ≤ w.heap.size + 1 + 1 + 1; omega) _, by simp at z9 ⊢; omega⟩
            case measure => simp [intOf]; omega
          · go_wp2_with fail
            refine (HO _ F0).out.mono ?_
            rintro e w1 ⟨rfl, B1⟩
            have F1 := F0.trans (B1.mono F0.size)
            obtain ⟨p0, p1⟩ := (hC.on F1 (by omega)).rb
            obtain ⟨r0, r1⟩ := (hD.on F1 (by omega)).rb
            go_wp2_with fail
            refine (HP _ F1).out.mono ?_
            rintro e w2 ⟨rfl, B2⟩
            have F2 := F1.trans (B2.mono F1.size)
            obtain ⟨p0, p1⟩ := (hC.on F2 (by omega)).rb
            obtain ⟨r0, r1⟩ := (hD.on F2 (by omega)).rb
            have M1 := hM.on F2 (by omega)
            have C1 := hC.on F2 (by omega)
            have D1 := hD.on F2 (by omega)
            have Y1 := hX.on F2 (by omega)
            have O1 := own_below hown F2
            have G1 := hbel.trans (F2.mono hbel.size)
            have z1 := F2.size
            obtain ⟨q0, q1⟩ := M1.rb
            have f1 := M1.free 1
            have hdd : Hid (max (max 0 x) y = 0) := by show _ = _; omega
            clear HO HP hC hD hM hX hown hbel p0 p1 r0 r1 F0 F1 B1 F2 B2
            generalize w2 = V at *
            have CN : ∀ j u, [Value.int .i64 0][j]? = some u → (V.alloc (.cells #[.int .i64 0] 3)).cell? ((⟨V.heap.size, 0, none⟩ : Addr).add j) = some u := cell_one_new _ _ _
            have O2 := O1.alloc (.cells #[.int .i64 0] 3)
            have M2 := M1.old (.cells #[.int .i64 0] 3)
            have C2 := C1.old (.cells #[.int .i64 0] 3)
            have D2 := D1.old (.cells #[.int .i64 0] 3)
            have Y2 := Y1.old (.cells #[.int .i64 0] 3)
            have G2 := G1.alloc G1.size (.cells #[.int .i64 0] 3)
            have z2 : w.heap.size + 4 ≤ (V.alloc (.cells #[.int .i64 0] 3)).heap.size := by simp; omega
            go_wp2_with (at_builtin; refine wpList_append_own _ rfl (.tmp 56) (.tmp 58) 22 rfl (w.heap.size + 4) 3 i0 (.int .i64 0) 1 8 Try.underlying22 hi hz0 hz1 hz2 rfl (by decide) _ k (((jn xs ys).take k).map (Value.int .i64)) rfl O2 ⟨V.heap.size, 0, none⟩ 1 1 [.int .i64 0] rfl rfl CN (by intro u hu; simp at hu; subst hu; rfl) (by unfold maxLen; omega) (by omega) z2 ?_; intro v2 w9 hown9 hgrow9 _; have M9 := M2.grown O2 hgrow9 (by omega); have f9 := M9.free 1; have z9 := hgrow9.size; obtain ⟨E', m', c9, rfl, own9⟩ := jn_own HTk.out hdd.out hown9; obtain ⟨q2, q3⟩ := M9.rb)
            have C9 := C2.grown O2 hgrow9 (by omega)
            have D9 := D2.grown O2 hgrow9 (by omega)
            have Y9 := Y2.grown O2 hgrow9 (by omega)
            have G9 := G2.grown hgrow9 G2.size (fun q hq => by have := (O2.lt q hq).1; omega)
            go_roundw
            case rel =>
              exact ⟨k + 1, by omega, by go_num, E', m', c9, C9.other (by show w.heap.size ≠ w.heap.size + 1 + 1 + 1; omega) _, D9.other (by show w.heap.size + 1 ≠ w.heap.size + 1 + 1 + 1; omega) _, Y9.other (by show w.heap.size + 1 + 1 ≠ w.heap.size + 1 + 1 + 1; omega) _, M9.set1 _ _ _, own_set own9 (by omega) 1 _, G9.setCell (by show w.heap.size ≤ w.heap.size + 1 + 1 + 1; omega) _, by simp at z9 ⊢; omega⟩
            case measure => simp [intOf]; omega
      · have g2 : (k : Int) + 1 ≤ (ys.length : Int) := by omega
        have hx00 := HXO (by omega)
        clear HXO
        subst hx00
        by_cases hy0 : 0 < y
        · go_wp2_with fail
          refine (HO _ F0).out.mono ?_
          rintro e w1 ⟨rfl, B1⟩
          have F1 := F0.trans (B1.mono F0.size)
          obtain ⟨p0, p1⟩ := (hC.on F1 (by omega)).rb
          obtain ⟨r0, r1⟩ := (hD.on F1 (by omega)).rb
          go_wp2_with fail
          refine (HP _ F1).out.mono ?_
          rintro e w2 ⟨rfl, B2⟩
          have F2 := F1.trans (B2.mono F1.size)
          obtain ⟨p0, p1⟩ := (hC.on F2 (by omega)).rb
          obtain ⟨r0, r1⟩ := (hD.on F2 (by omega)).rb
          go_wp2_with fail
          refine (HP _ F2).out.mono ?_
          rintro e w3 ⟨rfl, B3⟩
          have F3 := F2.trans (B3.mono F2.size)
          obtain ⟨p0, p1⟩ := (hC.on F3 (by omega)).rb
          obtain ⟨r0, r1⟩ := (hD.on F3 (by omega)).rb
          have M1 := hM.on F3 (by omega)
          have C1 := hC.on F3 (by omega)
          have D1 := hD.on F3 (by omega)
          have Y1 := hX.on F3 (by omega)
          have O1 := own_below hown F3
          have G1 := hbel.trans (F3.mono hbel.size)
          have z1 := F3.size
          obtain ⟨q0, q1⟩ := M1.rb
          have f1 := M1.free 1
          have hdd : Hid (max (max 0 0) y = y) := by show _ = _; omega
          clear HO HP hC hD hM hX hown hbel p0 p1 r0 r1 F0 F1 B1 F2 B2 F3 B3
          generalize w3 = V at *
          have CN : ∀ j u, [Value.int .i64 y][j]? = some u → (V.alloc (.cells #[.int .i64 y] 3)).cell? ((⟨V.heap.size, 0, none⟩ : Addr).add j) = some u := cell_one_new _ _ _
          have O2 := O1.alloc (.cells #[.int .i64 y] 3)
          have M2 := M1.old (.cells #[.int .i64 y] 3)
          have C2 := C1.old (.cells #[.int .i64 y] 3)
          have D2 := D1.old (.cells #[.int .i64 y] 3)
          have Y2 := Y1.old (.cells #[.int .i64 y] 3)
          have G2 := G1.alloc G1.size (.cells #[.int .i64 y] 3)
          have z2 : w.heap.size + 4 ≤ (V.alloc (.cells #[.int .i64 y] 3)).heap.size := by simp; omega
          go_wp2_with (at_builtin; refine wpList_append_own _ rfl (.tmp 56) (.tmp 58) 22 rfl (w.heap.size + 4) 3 i0 (.int .i64 0) 1 8 Try.underlying22 hi hz0 hz1 hz2 rfl (by decide) _ k (((jn xs ys).take k).map (Value.int .i64)) rfl O2 ⟨V.heap.size, 0, none⟩ 1 1 [.int .i64 y] rfl rfl CN (by intro u hu; simp at hu; subst hu; rfl) (by unfold maxLen; omega) (by omega) z2 ?_; intro v2 w9 hown9 hgrow9 _; have M9 := M2.grown O2 hgrow9 (by omega); have f9 := M9.free 1; have z9 := hgrow9.size; obtain ⟨E', m', c9, rfl, own9⟩ := jn_own HTk.out hdd.out hown9; obtain ⟨q2, q3⟩ := M9.rb)
          have C9 := C2.grown O2 hgrow9 (by omega)
          have D9 := D2.grown O2 hgrow9 (by omega)
          have Y9 := Y2.grown O2 hgrow9 (by omega)
          have G9 := G2.grown hgrow9 G2.size (fun q hq => by have := (O2.lt q hq).1; omega)
          go_roundw
          case rel =>
            exact ⟨k + 1, by omega, by go_num, E', m', c9, C9.other (by show w.heap.size ≠ w.heap.size + 1 + 1 + 1; omega) _, D9.other (by show w.heap.size + 1 ≠ w.heap.size + 1 + 1 + 1; omega) _, Y9.other (by show w.heap.size + 1 + 1 ≠ w.heap.size + 1 + 1 + 1; omega) _, M9.set1 _ _ _, own_set own9 (by omega) 1 _, G9.setCell (by show w.heap.size ≤ w.heap.size + 1 + 1 + 1; omega) _, by simp at z9 ⊢; omega⟩
          case measure => simp [intOf]; omega
        · go_wp2_with fail
          refine (HO _ F0).out.mono ?_
          rintro e w1 ⟨rfl, B1⟩
          have F1 := F0.trans (B1.mono F0.size)
          obtain ⟨p0, p1⟩ := (hC.on F1 (by omega)).rb
          obtain ⟨r0, r1⟩ := (hD.on F1 (by omega)).rb
          go_wp2_with fail
          refine (HP _ F1).out.mono ?_
          rintro e w2 ⟨rfl, B2⟩
          have F2 := F1.trans (B2.mono F1.size)
          obtain ⟨p0, p1⟩ := (hC.on F2 (by omega)).rb
          obtain ⟨r0, r1⟩ := (hD.on F2 (by omega)).rb
          have M1 := hM.on F2 (by omega)
          have C1 := hC.on F2 (by omega)
          have D1 := hD.on F2 (by omega)
          have Y1 := hX.on F2 (by omega)
          have O1 := own_below hown F2
          have G1 := hbel.trans (F2.mono hbel.size)
          have z1 := F2.size
          obtain ⟨q0, q1⟩ := M1.rb
          have f1 := M1.free 1
          have hdd : Hid (max (max 0 0) y = 0) := by show _ = _; omega
          clear HO HP hC hD hM hX hown hbel p0 p1 r0 r1 F0 F1 B1 F2 B2
          generalize w2 = V at *
          have CN : ∀ j u, [Value.int .i64 0][j]? = some u → (V.alloc (.cells #[.int .i64 0] 3)).cell? ((⟨V.heap.size, 0, none⟩ : Addr).add j) = some u := cell_one_new _ _ _
          have O2 := O1.alloc (.cells #[.int .i64 0] 3)
          have M2 := M1.old (.cells #[.int .i64 0] 3)
          have C2 := C1.old (.cells #[.int .i64 0] 3)
          have D2 := D1.old (.cells #[.int .i64 0] 3)
          have Y2 := Y1.old (.cells #[.int .i64 0] 3)
          have G2 := G1.alloc G1.size (.cells #[.int .i64 0] 3)
          have z2 : w.heap.size + 4 ≤ (V.alloc (.cells #[.int .i64 0] 3)).heap.size := by simp; omega
          go_wp2_with (at_builtin; refine wpList_append_own _ rfl (.tmp 56) (.tmp 58) 22 rfl (w.heap.size + 4) 3 i0 (.int .i64 0) 1 8 Try.underlying22 hi hz0 hz1 hz2 rfl (by decide) _ k (((jn xs ys).take k).map (Value.int .i64)) rfl O2 ⟨V.heap.size, 0, none⟩ 1 1 [.int .i64 0] rfl rfl CN (by intro u hu; simp at hu; subst hu; rfl) (by unfold maxLen; omega) (by omega) z2 ?_; intro v2 w9 hown9 hgrow9 _; have M9 := M2.grown O2 hgrow9 (by omega); have f9 := M9.free 1; have z9 := hgrow9.size; obtain ⟨E', m', c9, rfl, own9⟩ := jn_own HTk.out hdd.out hown9; obtain ⟨q2, q3⟩ := M9.rb)
          have C9 := C2.grown O2 hgrow9 (by omega)
          have D9 := D2.grown O2 hgrow9 (by omega)
          have Y9 := Y2.grown O2 hgrow9 (by omega)
          have G9 := G2.grown hgrow9 G2.size (fun q hq => by have := (O2.lt q hq).1; omega)
          go_roundw
          case rel =>
            exact ⟨k + 1, by omega, by go_num, E', m', c9, C9.other (by show w.heap.size ≠ w.heap.size + 1 + 1 + 1; omega) _, D9.other (by show w.heap.size + 1 ≠ w.heap.size + 1 + 1 + 1; omega) _, Y9.other (by show w.heap.size + 1 + 1 ≠ w.heap.size + 1 + 1 + 1; omega) _, M9.set1 _ _ _, own_set own9 (by omega) 1 _, G9.setCell (by show w.heap.size ≤ w.heap.size + 1 + 1 + 1; omega) _, by simp at z9 ⊢; omega⟩
          case measure => simp [intOf]; omega
    · have g1 : ¬ (k : Int) + 1 ≤ (xs.length : Int) := by omega
      have g2 : ¬ (k : Int) + 1 ≤ (ys.length : Int) := by omega
      obtain rfl : k = max xs.length ys.length := by omega
      rw [List.take_of_length_le (by rw [jn_len]; omega)] at hown
      have hjl : (jn xs ys).length = max xs.length ys.length := jn_len xs ys
      rw [← hjl] at hown g1 g2
      obtain ⟨E', c9, hv, hsl, _⟩ := own_slice hown
      simp only [Value.slice.injEq] at hv
      obtain ⟨rfl, rfl, rfl⟩ := hv
      have hk9 : (jn xs ys).length ≤ 1000 := by omega
      rw [← hjl]
      obtain ⟨q0, q1⟩ := hM.rb
      obtain ⟨t0, t1⟩ := hX.rb
      have f0 := hX.free 0
      have f1 := hX.free 1
      clear hjl hk hlt
      generalize jn xs ys = zs at *
      go_wp2
      have X9 : Ax ((wr.setCell ⟨w.heap.size + 1 + 1, 0, none⟩ (.int .i64 b)).setCell ⟨w.heap.size + 1 + 1, 1, none⟩ (.slice E zs.length d)) (w.heap.size + 1 + 1) b E zs.length d := (hX.set0 b).set1 _ _ _
      have O9 := own_set (own_set hown (M := w.heap.size + 1 + 1) (by omega) 0 (.int .i64 b)) (M := w.heap.size + 1 + 1) (by omega) 1 (.slice E zs.length d)
      have E9 : Below w.heap.size w ((wr.setCell ⟨w.heap.size + 1 + 1, 0, none⟩ (.int .i64 b)).setCell ⟨w.heap.size + 1 + 1, 1, none⟩ (.slice E zs.length d)) := (hbel.setCell (by show w.heap.size ≤ w.heap.size + 1 + 1; omega) _).setCell (by show w.heap.size ≤ w.heap.size + 1 + 1; omega) _
      obtain ⟨E2, c2, hv2, hs2, hf2⟩ := own_fresh O9
      simp only [Value.slice.injEq] at hv2
      obtain ⟨rfl, _, rfl⟩ := hv2
      exact bodyPost_ret (run_res25 (B := w.heap.size + 1 + 1) rfl X9.rb) rfl ⟨_, _, rfl, hs2, E9, fr_le hf2 (by omega)⟩

set_option maxHeartbeats 8000000 in
theorem rmerge2 (a b : Int) (A A' : Option Addr) (c c' : Nat) (xs ys : List Int) (w : World) (hx : Sl w w.heap.size .i64 A xs) (hy : Sl w w.heap.size .i64 A' ys) (lx : xs.length ≤ 1000) (ly : ys.length ≤ 1000) (ha : 0 < a) (hb : ¬ a < b) : Calls Try.prog 25 #[.agg #[.int .i64 a, .slice A xs.length c], .agg #[.int .i64 b, .slice A' ys.length c']] w (FrPost w (max (max 0 a) b) (jn xs ys)) := by
  obtain ⟨i0, hi, hz0, hz1, hz2⟩ := info_parts info3
  rw [show max (max 0 a) b = a by omega]
  have BW : Below w.heap.size w ((((w.alloc (.cells #[.int .i64 a, .slice A xs.length c] 24)).alloc (.cells #[.int .i64 b, .slice A' ys.length c'] 24)).alloc (.cells #[.int .i64 0, .slice none 0 0] 24)).alloc (.cells #[.int .i64 0, .slice none 0 0] 24)) := ((((Below.refl _ _).alloc (Nat.le_refl _) _).alloc (by simp) _).alloc (by simp; omega) _).alloc (by simp; omega) _
  go_enter Try.func25, Try.ntmps25
  go_wp2
  have J0 := jr_new w a b a A A' c c' xs ys
  generalize (((((w.alloc (.cells #[.int .i64 a, .slice A xs.length c] 24)).alloc (.cells #[.int .i64 b, .slice A' ys.length c'] 24))).alloc (.cells #[.int .i64 0, .slice none 0 0] 24)).alloc (.cells #[.int .i64 a, .slice none 0 0] 24)) = W0 at *
  clear BW
  go_loopw [6] (fun i wr => ∃ k : Nat, k ≤ max xs.length ys.length ∧ i = .int .i64 ((k : Int) + 1) ∧ Jr w wr a b (a) A A' c c' xs ys k) (fun i _ => 1002 - (intOf i).toNat)
  case atStart => exact ⟨0, by omega, rfl, J0⟩
  case round =>
    obtain ⟨k, hk, rfl, E, m, d, hC, hD, hX, hM, hown, hbel, hsz⟩ := hrel
    have F0 := Below.refl wr.heap.size wr
    obtain ⟨p0, p1⟩ := hC.rb
    obtain ⟨r0, r1⟩ := hD.rb
    by_cases hlt : k < max xs.length ys.length
    · have HO : ∀ W, Below wr.heap.size wr W → Hid (Calls Try.prog 24 #[.agg #[.int .i64 a, .slice A xs.length c], .int .i64 ((k : Int) + 1)] W (IntPost W (xs.getD k 0))) := fun W hW => by
        have := dep_any a A c W.heap.size xs ((k : Int) + 1) W (Nat.le_refl _) ((hx.to hbel hbel.size).up hW) (by omega)
        rw [dp_at] at this
        exact this
      have HP : ∀ W, Below wr.heap.size wr W → Hid (Calls Try.prog 24 #[.agg #[.int .i64 b, .slice A' ys.length c'], .int .i64 ((k : Int) + 1)] W (IntPost W (ys.getD k 0))) := fun W hW => by
        have := dep_any b A' c' W.heap.size ys ((k : Int) + 1) W (Nat.le_refl _) ((hy.to hbel hbel.size).up hW) (by omega)
        rw [dp_at] at this
        exact this
      have HTk := Lib.hid (jn_take xs ys hlt)
      have HXO : xs.length ≤ k → xs.getD k 0 = 0 := fun h => getD_out h
      generalize xs.getD k 0 = x at *
      generalize ys.getD k 0 = y at *
      by_cases g1 : (k : Int) + 1 ≤ (xs.length : Int)
      · clear HXO
        by_cases hx0 : 0 < x
        · by_cases hy0 : x < y
          · go_wp2_with fail
            refine (HO _ F0).out.mono ?_
            rintro e w1 ⟨rfl, B1⟩
            have F1 := F0.trans (B1.mono F0.size)
            obtain ⟨p0, p1⟩ := (hC.on F1 (by omega)).rb
            obtain ⟨r0, r1⟩ := (hD.on F1 (by omega)).rb
            go_wp2_with fail
            refine (HO _ F1).out.mono ?_
            rintro e w2 ⟨rfl, B2⟩
            have F2 := F1.trans (B2.mono F1.size)
            obtain ⟨p0, p1⟩ := (hC.on F2 (by omega)).rb
            obtain ⟨r0, r1⟩ := (hD.on F2 (by omega)).rb
            go_wp2_with fail
            refine (HP _ F2).out.mono ?_
            rintro e w3 ⟨rfl, B3⟩
            have F3 := F2.trans (B3.mono F2.size)
            obtain ⟨p0, p1⟩ := (hC.on F3 (by omega)).rb
            obtain ⟨r0, r1⟩ := (hD.on F3 (by omega)).rb
            go_wp2_with fail
            refine (HP _ F3).out.mono ?_
            rintro e w4 ⟨rfl, B4⟩
            have F4 := F3.trans (B4.mono F3.size)
            obtain ⟨p0, p1⟩ := (hC.on F4 (by omega)).rb
            obtain ⟨r0, r1⟩ := (hD.on F4 (by omega)).rb
            have M1 := hM.on F4 (by omega)
            have C1 := hC.on F4 (by omega)
            have D1 := hD.on F4 (by omega)
            have Y1 := hX.on F4 (by omega)
            have O1 := own_below hown F4
            have G1 := hbel.trans (F4.mono hbel.size)
            have z1 := F4.size
            obtain ⟨q0, q1⟩ := M1.rb
            have f1 := M1.free 1
            have hdd : Hid (max (max 0 x) y = y) := by show _ = _; omega
            clear HO HP hC hD hM hX hown hbel p0 p1 r0 r1 F0 F1 B1 F2 B2 F3 B3 F4 B4
            generalize w4 = V at *
            have CN : ∀ j u, [Value.int .i64 y][j]? = some u → (V.alloc (.cells #[.int .i64 y] 3)).cell? ((⟨V.heap.size, 0, none⟩ : Addr).add j) = some u := cell_one_new _ _ _
            have O2 := O1.alloc (.cells #[.int .i64 y] 3)
            have M2 := M1.old (.cells #[.int .i64 y] 3)
            have C2 := C1.old (.cells #[.int .i64 y] 3)
            have D2 := D1.old (.cells #[.int .i64 y] 3)
            have Y2 := Y1.old (.cells #[.int .i64 y] 3)
            have G2 := G1.alloc G1.size (.cells #[.int .i64 y] 3)
            have z2 : w.heap.size + 4 ≤ (V.alloc (.cells #[.int .i64 y] 3)).heap.size := by simp; omega
            go_wp2_with (at_builtin; refine wpList_append_own _ rfl (.tmp 56) (.tmp 58) 22 rfl (w.heap.size + 4) 3 i0 (.int .i64 0) 1 8 Try.underlying22 hi hz0 hz1 hz2 rfl (by decide) _ k (((jn xs ys).take k).map (Value.int .i64)) rfl O2 ⟨V.heap.size, 0, none⟩ 1 1 [.int .i64 y] rfl rfl CN (by intro u hu; simp at hu; subst hu; rfl) (by unfold maxLen; omega) (by omega) z2 ?_; intro v2 w9 hown9 hgrow9 _; have M9 := M2.grown O2 hgrow9 (by omega); have f9 := M9.free 1; have z9 := hgrow9.size; obtain ⟨E', m', c9, rfl, own9⟩ := jn_own HTk.out hdd.out hown9; obtain ⟨q2, q3⟩ := M9.rb)
            have C9 := C2.grown O2 hgrow9 (by omega)
            have D9 := D2.grown O2 hgrow9 (by omega)
            have Y9 := Y2.grown O2 hgrow9 (by omega)
            have G9 := G2.grown hgrow9 G2.size (fun q hq => by have := (O2.lt q hq).1; omega)
            go_roundw
            case rel =>
              exact ⟨k + 1, by omega, by go_num, E', m', c9, C9.other (by show w.heap.size ≠ w.heap.size + 1 + 1 + 1; omega) _, D9.other (by show w.heap.size + 1 ≠ w.heap.size + 1 + 1 + 1; omega) _, Y9.other (by show w.heap.size + 1 + 1 ≠ w.heap.size + 1 + 1 + 1; omega) _, M9.set1 _ _ _, own_set own9 (by omega) 1 _, G9.setCell (by show w.heap.size ≤ w.heap.size + 1 + 1 + 1; omega) _, by simp at z9 ⊢; omega⟩
            case measure => simp [intOf]; omega
          · go_wp2_with fail
            refine (HO _ F0).out.mono ?_
            rintro e w1 ⟨rfl, B1⟩
            have F1 := F0.trans (B1.mono F0.size)
            obtain ⟨p0, p1⟩ := (hC.on F1 (by omega)).rb
            obtain ⟨r0, r1⟩ := (hD.on F1 (by omega)).rb
            go_wp2_with fail
            refine (HO _ F1).out.mono ?_
            rintro e w2 ⟨rfl, B2⟩
            have F2 := F1.trans (B2.mono F1.size)
            obtain ⟨p0, p1⟩ := (hC.on F2 (by omega)).rb
            obtain ⟨r0, r1⟩ := (hD.on F2 (by omega)).rb
            go_wp2_with fail
            refine (HP _ F2).out.mono ?_
            rintro e w3 ⟨rfl, B3⟩
            have F3 := F2.trans (B3.mono F2.size)
            obtain ⟨p0, p1⟩ := (hC.on F3 (by omega)).rb
            obtain ⟨r0, r1⟩ := (hD.on F3 (by omega)).rb
            have M1 := hM.on F3 (by omega)
            have C1 := hC.on F3 (by omega)
            have D1 := hD.on F3 (by omega)
            have Y1 := hX.on F3 (by omega)
            have O1 := own_below hown F3
            have G1 := hbel.trans (F3.mono hbel.size)
            have z1 := F3.size
            obtain ⟨q0, q1⟩ := M1.rb
            have f1 := M1.free 1
            have hdd : Hid (max (max 0 x) y = x) := by show _ = _; omega
            clear HO HP hC hD hM hX hown hbel p0 p1 r0 r1 F0 F1 B1 F2 B2 F3 B3
            generalize w3 = V at *
            have CN : ∀ j u, [Value.int .i64 x][j]? = some u → (V.alloc (.cells #[.int .i64 x] 3)).cell? ((⟨V.heap.size, 0, none⟩ : Addr).add j) = some u := cell_one_new _ _ _
            have O2 := O1.alloc (.cells #[.int .i64 x] 3)
            have M2 := M1.old (.cells #[.int .i64 x] 3)
            have C2 := C1.old (.cells #[.int .i64 x] 3)
            have D2 := D1.old (.cells #[.int .i64 x] 3)
            have Y2 := Y1.old (.cells #[.int .i64 x] 3)
            have G2 := G1.alloc G1.size (.cells #[.int .i64 x] 3)
            have z2 : w.heap.size + 4 ≤ (V.alloc (.cells #[.int .i64 x] 3)).heap.size := by simp; omega
            go_wp2_with (at_builtin; refine wpList_append_own _ rfl (.tmp 56) (.tmp 58) 22 rfl (w.heap.size + 4) 3 i0 (.int .i64 0) 1 8 Try.underlying22 hi hz0 hz1 hz2 rfl (by decide) _ k (((jn xs ys).take k).map (Value.int .i64)) rfl O2 ⟨V.heap.size, 0, none⟩ 1 1 [.int .i64 x] rfl rfl CN (by intro u hu; simp at hu; subst hu; rfl) (by unfold maxLen; omega) (by omega) z2 ?_; intro v2 w9 hown9 hgrow9 _; have M9 := M2.grown O2 hgrow9 (by omega); have f9 := M9.free 1; have z9 := hgrow9.size; obtain ⟨E', m', c9, rfl, own9⟩ := jn_own HTk.out hdd.out hown9; obtain ⟨q2, q3⟩ := M9.rb)
            have C9 := C2.grown O2 hgrow9 (by omega)
            have D9 := D2.grown O2 hgrow9 (by omega)
            have Y9 := Y2.grown O2 hgrow9 (by omega)
            have G9 := G2.grown hgrow9 G2.size (fun q hq => by have := (O2.lt q hq).1; omega)
            go_roundw
            case rel =>
              exact ⟨k + 1, by omega, by go_num, E', m', c9, C9.other (by show w.heap.size ≠ w.heap.size + 1 + 1 + 1; omega) _, D9.other (by show w.heap.size + 1 ≠ w.heap.size + 1 + 1 + 1; omega) _, Y9.other (by show w.heap.size + 1 + 1 ≠ w.heap.size + 1 + 1 + 1; omega) _, M9.set1 _ _ _, own_set own9 (by omega) 1 _, G9.setCell (by show w.heap.size ≤ w.heap.size + 1 + 1 + 1; omega) _, by simp at z9 ⊢; omega⟩
            case measure => simp [intOf]; omega
        · by_cases hy0 : 0 < y
          · go_wp2_with fail
            refine (HO _ F0).out.mono ?_
            rintro e w1 ⟨rfl, B1⟩
            have F1 := F0.trans (B1.mono F0.size)
            obtain ⟨p0, p1⟩ := (hC.on F1 (by omega)).rb
            obtain ⟨r0, r1⟩ := (hD.on F1 (by omega)).rb
            go_wp2_with fail
            refine (HP _ F1).out.mono ?_
            rintro e w2 ⟨rfl, B2⟩
            have F2 := F1.trans (B2.mono F1.size)
            obtain ⟨p0, p1⟩ := (hC.on F2 (by omega)).rb
            obtain ⟨r0, r1⟩ := (hD.on F2 (by omega)).rb
            go_wp2_with fail
            refine (HP _ F2).out.mono ?_
            rintro e w3 ⟨rfl, B3⟩
            have F3 := F2.trans (B3.mono F2.size)
            obtain ⟨p0, p1⟩ := (hC.on F3 (by omega)).rb
            obtain ⟨r0, r1⟩ := (hD.on F3 (by omega)).rb
            have M1 := hM.on F3 (by omega)
            have C1 := hC.on F3 (by omega)
            have D1 := hD.on F3 (by omega)
            have Y1 := hX.on F3 (by omega)
            have O1 := own_below hown F3
            have G1 := hbel.trans (F3.mono hbel.size)
            have z1 := F3.size
            obtain ⟨q0, q1⟩ := M1.rb
            have f1 := M1.free 1
            have hdd : Hid (max (max 0 x) y = y) := by show _ = _; omega
            clear HO HP hC hD hM hX hown hbel p0 p1 r0 r1 F0 F1 B1 F2 B2 F3 B3
            generalize w3 = V at *
            have CN : ∀ j u, [Value.int .i64 y][j]? = some u → (V.alloc (.cells #[.int .i64 y] 3)).cell? ((⟨V.heap.size, 0, none⟩ : Addr).add j) = some u := cell_one_new _ _ _
            have O2 := O1.alloc (.cells #[.int .i64 y] 3)
            have M2 := M1.old (.cells #[.int .i64 y] 3)
            have C2 := C1.old (.cells #[.int .i64 y] 3)
            have D2 := D1.old (.cells #[.int .i64 y] 3)
            have Y2 := Y1.old (.cells #[.int .i64 y] 3)
            have G2 := G1.alloc G1.size (.cells #[.int .i64 y] 3)
            have z2 : w.heap.size + 4 ≤ (V.alloc (.cells #[.int .i64 y] 3)).heap.size := by simp; omega
            go_wp2_with (at_builtin; refine wpList_append_own _ rfl (.tmp 56) (.tmp 58) 22 rfl (w.heap.size + 4) 3 i0 (.int .i64 0) 1 8 Try.underlying22 hi hz0 hz1 hz2 rfl (by decide) _ k (((jn xs ys).take k).map (Value.int .i64)) rfl O2 ⟨V.heap.size, 0, none⟩ 1 1 [.int .i64 y] rfl rfl CN (by intro u hu; simp at hu; subst hu; rfl) (by unfold maxLen; omega) (by omega) z2 ?_; intro v2 w9 hown9 hgrow9 _; have M9 := M2.grown O2 hgrow9 (by omega); have f9 := M9.free 1; have z9 := hgrow9.size; obtain ⟨E', m', c9, rfl, own9⟩ := jn_own HTk.out hdd.out hown9; obtain ⟨q2, q3⟩ := M9.rb)
            have C9 := C2.grown O2 hgrow9 (by omega)
            have D9 := D2.grown O2 hgrow9 (by omega)
            have Y9 := Y2.grown O2 hgrow9 (by omega)
            have G9 := G2.grown hgrow9 G2.size (fun q hq => by have := (O2.lt q hq).1; omega)
            go_roundw
            case rel =>
              exact ⟨k + 1, by omega, by go_num, E', m', c9, C9.other (by show w.heap.size ≠ w.heap.size + 1 + 1 + 1; omega) _, D9.other (by show w.heap.size + 1 ≠ w.heap.size + 1 + 1 + 1; omega) _, Y9.other (by show w.heap.size + 1 + 1 ≠ w.heap.size + 1 + 1 + 1; omega) _, M9.set1 _ _ _, own_set own9 (by omega) 1 _, G9.setCell (by show w.heap.size ≤ w.heap.size + 1 + 1 + 1; omega) _, by simp at z9 ⊢; omega⟩
            case measure => simp [intOf]; omega
          · go_wp2_with fail
            refine (HO _ F0).out.mono ?_
            rintro e w1 ⟨rfl, B1⟩
            have F1 := F0.trans (B1.mono F0.size)
            obtain ⟨p0, p1⟩ := (hC.on F1 (by omega)).rb
            obtain ⟨r0, r1⟩ := (hD.on F1 (by omega)).rb
            go_wp2_with fail
            refine (HP _ F1).out.mono ?_
            rintro e w2 ⟨rfl, B2⟩
            have F2 := F1.trans (B2.mono F1.size)
            obtain ⟨p0, p1⟩ := (hC.on F2 (by omega)).rb
            obtain ⟨r0, r1⟩ := (hD.on F2 (by omega)).rb
            have M1 := hM.on F2 (by omega)
            have C1 := hC.on F2 (by omega)
            have D1 := hD.on F2 (by omega)
            have Y1 := hX.on F2 (by omega)
            have O1 := own_below hown F2
            have G1 := hbel.trans (F2.mono hbel.size)
            have z1 := F2.size
            obtain ⟨q0, q1⟩ := M1.rb
            have f1 := M1.free 1
            have hdd : Hid (max (max 0 x) y = 0) := by show _ = _; omega
            clear HO HP hC hD hM hX hown hbel p0 p1 r0 r1 F0 F1 B1 F2 B2
            generalize w2 = V at *
            have CN : ∀ j u, [Value.int .i64 0][j]? = some u → (V.alloc (.cells #[.int .i64 0] 3)).cell? ((⟨V.heap.size, 0, none⟩ : Addr).add j) = some u := cell_one_new _ _ _
            have O2 := O1.alloc (.cells #[.int .i64 0] 3)
            have M2 := M1.old (.cells #[.int .i64 0] 3)
            have C2 := C1.old (.cells #[.int .i64 0] 3)
            have D2 := D1.old (.cells #[.int .i64 0] 3)
            have Y2 := Y1.old (.cells #[.int .i64 0] 3)
            have G2 := G1.alloc G1.size (.cells #[.int .i64 0] 3)
            have z2 : w.heap.size + 4 ≤ (V.alloc (.cells #[.int .i64 0] 3)).heap.size := by simp; omega
            go_wp2_with (at_builtin; refine wpList_append_own _ rfl (.tmp 56) (.tmp 58) 22 rfl (w.heap.size + 4) 3 i0 (.int .i64 0) 1 8 Try.underlying22 hi hz0 hz1 hz2 rfl (by decide) _ k (((jn xs ys).take k).map (Value.int .i64)) rfl O2 ⟨V.heap.size, 0, none⟩ 1 1 [.int .i64 0] rfl rfl CN (by intro u hu; simp at hu; subst hu; rfl) (by unfold maxLen; omega) (by omega) z2 ?_; intro v2 w9 hown9 hgrow9 _; have M9 := M2.grown O2 hgrow9 (by omega); have f9 := M9.free 1; have z9 := hgrow9.size; obtain ⟨E', m', c9, rfl, own9⟩ := jn_own HTk.out hdd.out hown9; obtain ⟨q2, q3⟩ := M9.rb)
            have C9 := C2.grown O2 hgrow9 (by omega)
            have D9 := D2.grown O2 hgrow9 (by omega)
            have Y9 := Y2.grown O2 hgrow9 (by omega)
            have G9 := G2.grown hgrow9 G2.size (fun q hq => by have := (O2.lt q hq).1; omega)
            go_roundw
            case rel =>
              exact ⟨k + 1, by omega, by go_num, E', m', c9, C9.other (by show w.heap.size ≠ w.heap.size + 1 + 1 + 1; omega) _, D9.other (by show w.heap.size + 1 ≠ w.heap.size + 1 + 1 + 1; omega) _, Y9.other (by show w.heap.size + 1 + 1 ≠ w.heap.size + 1 + 1 + 1; omega) _, M9.set1 _ _ _, own_set own9 (by omega) 1 _, G9.setCell (by show w.heap.size ≤ w.heap.size + 1 + 1 + 1; omega) _, by simp at z9 ⊢; omega⟩
            case measure => simp [intOf]; omega
      · have g2 : (k : Int) + 1 ≤ (ys.length : Int) := by omega
        have hx00 := HXO (by omega)
        clear HXO
        subst hx00
        by_cases hy0 : 0 < y
        · go_wp2_with fail
          refine (HO _ F0).out.mono ?_
          rintro e w1 ⟨rfl, B1⟩
          have F1 := F0.trans (B1.mono F0.size)
          obtain ⟨p0, p1⟩ := (hC.on F1 (by omega)).rb
          obtain ⟨r0, r1⟩ := (hD.on F1 (by omega)).rb
          go_wp2_with fail
          refine (HP _ F1).out.mono ?_
          rintro e w2 ⟨rfl, B2⟩
          have F2 := F1.trans (B2.mono F1.size)
          obtain ⟨p0, p1⟩ := (hC.on F2 (by omega)).rb
          obtain ⟨r0, r1⟩ := (hD.on F2 (by omega)).rb
          go_wp2_with fail
          refine (HP _ F2).out.mono ?_
          rintro e w3 ⟨rfl, B3⟩
          have F3 := F2.trans (B3.mono F2.size)
          obtain ⟨p0, p1⟩ := (hC.on F3 (by omega)).rb
          obtain ⟨r0, r1⟩ := (hD.on F3 (by omega)).rb
          have M1 := hM.on F3 (by omega)
          have C1 := hC.on F3 (by omega)
          have D1 := hD.on F3 (by omega)
          have Y1 := hX.on F3 (by omega)
          have O1 := own_below hown F3
          have G1 := hbel.trans (F3.mono hbel.size)
          have z1 := F3.size
          obtain ⟨q0, q1⟩ := M1.rb
          have f1 := M1.free 1
          have hdd : Hid (max (max 0 0) y = y) := by show _ = _; omega
          clear HO HP hC hD hM hX hown hbel p0 p1 r0 r1 F0 F1 B1 F2 B2 F3 B3
          generalize w3 = V at *
          have CN : ∀ j u, [Value.int .i64 y][j]? = some u → (V.alloc (.cells #[.int .i64 y] 3)).cell? ((⟨V.heap.size, 0, none⟩ : Addr).add j) = some u := cell_one_new _ _ _
          have O2 := O1.alloc (.cells #[.int .i64 y] 3)
          have M2 := M1.old (.cells #[.int .i64 y] 3)
          have C2 := C1.old (.cells #[.int .i64 y] 3)
          have D2 := D1.old (.cells #[.int .i64 y] 3)
          have Y2 := Y1.old (.cells #[.int .i64 y] 3)
          have G2 := G1.alloc G1.size (.cells #[.int .i64 y] 3)
          have z2 : w.heap.size + 4 ≤ (V.alloc (.cells #[.int .i64 y] 3)).heap.size := by simp; omega
          go_wp2_with (at_builtin; refine wpList_append_own _ rfl (.tmp 56) (.tmp 58) 22 rfl (w.heap.size + 4) 3 i0 (.int .i64 0) 1 8 Try.underlying22 hi hz0 hz1 hz2 rfl (by decide) _ k (((jn xs ys).take k).map (Value.int .i64)) rfl O2 ⟨V.heap.size, 0, none⟩ 1 1 [.int .i64 y] rfl rfl CN (by intro u hu; simp at hu; subst hu; rfl) (by unfold maxLen; omega) (by omega) z2 ?_; intro v2 w9 hown9 hgrow9 _; have M9 := M2.grown O2 hgrow9 (by omega); have f9 := M9.free 1; have z9 := hgrow9.size; obtain ⟨E', m', c9, rfl, own9⟩ := jn_own HTk.out hdd.out hown9; obtain ⟨q2, q3⟩ := M9.rb)
          have C9 := C2.grown O2 hgrow9 (by omega)
          have D9 := D2.grown O2 hgrow9 (by omega)
          have Y9 := Y2.grown O2 hgrow9 (by omega)
          have G9 := G2.grown hgrow9 G2.size (fun q hq => by have := (O2.lt q hq).1; omega)
          go_roundw
          case rel =>
            exact ⟨k + 1, by omega, by go_num, E', m', c9, C9.other (by show w.heap.size ≠ w.heap.size + 1 + 1 + 1; omega) _, D9.other (by show w.heap.size + 1 ≠ w.heap.size + 1 + 1 + 1; omega) _, Y9.other (by show w.heap.size + 1 + 1 ≠ w.heap.size + 1 + 1 + 1; omega) _, M9.set1 _ _ _, own_set own9 (by omega) 1 _, G9.setCell (by show w.heap.size ≤ w.heap.size + 1 + 1 + 1; omega) _, by simp at z9 ⊢; omega⟩
          case measure => simp [intOf]; omega
        · go_wp2_with fail
          refine (HO _ F0).out.mono ?_
          rintro e w1 ⟨rfl, B1⟩
          have F1 := F0.trans (B1.mono F0.size)
          obtain ⟨p0, p1⟩ := (hC.on F1 (by omega)).rb
          obtain ⟨r0, r1⟩ := (hD.on F1 (by omega)).rb
          go_wp2_with fail
          refine (HP _ F1).out.mono ?_
          rintro e w2 ⟨rfl, B2⟩
          have F2 := F1.trans (B2.mono F1.size)
          obtain ⟨p0, p1⟩ := (hC.on F2 (by omega)).rb
          obtain ⟨r0, r1⟩ := (hD.on F2 (by omega)).rb
          have M1 := hM.on F2 (by omega)
          have C1 := hC.on F2 (by omega)
          have D1 := hD.on F2 (by omega)
          have Y1 := hX.on F2 (by omega)
          have O1 := own_below hown F2
          have G1 := hbel.trans (F2.mono hbel.size)
          have z1 := F2.size
          obtain ⟨q0, q1⟩ := M1.rb
          have f1 := M1.free 1
          have hdd : Hid (max (max 0 0) y = 0) := by show _ = _; omega
          clear HO HP hC hD hM hX hown hbel p0 p1 r0 r1 F0 F1 B1 F2 B2
          generalize w2 = V at *
          have CN : ∀ j u, [Value.int .i64 0][j]? = some u → (V.alloc (.cells #[.int .i64 0] 3)).cell? ((⟨V.heap.size, 0, none⟩ : Addr).add j) = some u := cell_one_new _ _ _
          have O2 := O1.alloc (.cells #[.int .i64 0] 3)
          have M2 := M1.old (.cells #[.int .i64 0] 3)
          have C2 := C1.old (.cells #[.int .i64 0] 3)
          have D2 := D1.old (.cells #[.int .i64 0] 3)
          have Y2 := Y1.old (.cells #[.int .i64 0] 3)
          have G2 := G1.alloc G1.size (.cells #[.int .i64 0] 3)
          have z2 : w.heap.size + 4 ≤ (V.alloc (.cells #[.int .i64 0] 3)).heap.size := by simp; omega
          go_wp2_with (at_builtin; refine wpList_append_own _ rfl (.tmp 56) (.tmp 58) 22 rfl (w.heap.size + 4) 3 i0 (.int .i64 0) 1 8 Try.underlying22 hi hz0 hz1 hz2 rfl (by decide) _ k (((jn xs ys).take k).map (Value.int .i64)) rfl O2 ⟨V.heap.size, 0, none⟩ 1 1 [.int .i64 0] rfl rfl CN (by intro u hu; simp at hu; subst hu; rfl) (by unfold maxLen; omega) (by omega) z2 ?_; intro v2 w9 hown9 hgrow9 _; have M9 := M2.grown O2 hgrow9 (by omega); have f9 := M9.free 1; have z9 := hgrow9.size; obtain ⟨E', m', c9, rfl, own9⟩ := jn_own HTk.out hdd.out hown9; obtain ⟨q2, q3⟩ := M9.rb)
          have C9 := C2.grown O2 hgrow9 (by omega)
          have D9 := D2.grown O2 hgrow9 (by omega)
          have Y9 := Y2.grown O2 hgrow9 (by omega)
          have G9 := G2.grown hgrow9 G2.size (fun q hq => by have := (O2.lt q hq).1; omega)
          go_roundw
          case rel =>
            exact ⟨k + 1, by omega, by go_num, E', m', c9, C9.other (by show w.heap.size ≠ w.heap.size + 1 + 1 + 1; omega) _, D9.other (by show w.heap.size + 1 ≠ w.heap.size + 1 + 1 + 1; omega) _, Y9.other (by show w.heap.size + 1 + 1 ≠ w.heap.size + 1 + 1 + 1; omega) _, M9.set1 _ _ _, own_set own9 (by omega) 1 _, G9.setCell (by show w.heap.size ≤ w.heap.size + 1 + 1 + 1; omega) _, by simp at z9 ⊢; omega⟩
          case measure => simp [intOf]; omega
    · have g1 : ¬ (k : Int) + 1 ≤ (xs.length : Int) := by omega
      have g2 : ¬ (k : Int) + 1 ≤ (ys.length : Int) := by omega
      obtain rfl : k = max xs.length ys.length := by omega
      rw [List.take_of_length_le (by rw [jn_len]; omega)] at hown
      have hjl : (jn xs ys).length = max xs.length ys.length := jn_len xs ys
      rw [← hjl] at hown g1 g2
      obtain ⟨E', c9, hv, hsl, _⟩ := own_slice hown
      simp only [Value.slice.injEq] at hv
      obtain ⟨rfl, rfl, rfl⟩ := hv
      have hk9 : (jn xs ys).length ≤ 1000 := by omega
      rw [← hjl]
      obtain ⟨q0, q1⟩ := hM.rb
      obtain ⟨t0, t1⟩ := hX.rb
      have f0 := hX.free 0
      have f1 := hX.free 1
      clear hjl hk hlt
      generalize jn xs ys = zs at *
      go_wp2
      have X9 : Ax ((wr.setCell ⟨w.heap.size + 1 + 1, 0, none⟩ (.int .i64 a)).setCell ⟨w.heap.size + 1 + 1, 1, none⟩ (.slice E zs.length d)) (w.heap.size + 1 + 1) a E zs.length d := (hX.set0 a).set1 _ _ _
      have O9 := own_set (own_set hown (M := w.heap.size + 1 + 1) (by omega) 0 (.int .i64 a)) (M := w.heap.size + 1 + 1) (by omega) 1 (.slice E zs.length d)
      have E9 : Below w.heap.size w ((wr.setCell ⟨w.heap.size + 1 + 1, 0, none⟩ (.int .i64 a)).setCell ⟨w.heap.size + 1 + 1, 1, none⟩ (.slice E zs.length d)) := (hbel.setCell (by show w.heap.size ≤ w.heap.size + 1 + 1; omega) _).setCell (by show w.heap.size ≤ w.heap.size + 1 + 1; omega) _
      obtain ⟨E2, c2, hv2, hs2, hf2⟩ := own_fresh O9
      simp only [Value.slice.injEq] at hv2
      obtain ⟨rfl, _, rfl⟩ := hv2
      exact bodyPost_ret (run_res25 (B := w.heap.size + 1 + 1) rfl X9.rb) rfl ⟨_, _, rfl, hs2, E9, fr_le hf2 (by omega)⟩

set_option maxHeartbeats 8000000 in
theorem rmerge3 (a b : Int) (A A' : Option Addr) (c c' : Nat) (xs ys : List Int) (w : World) (hx : Sl w w.heap.size .i64 A xs) (hy : Sl w w.heap.size .i64 A' ys) (lx : xs.length ≤ 1000) (ly : ys.length ≤ 1000) (ha : ¬ 0 < a) (hb : 0 < b) : Calls Try.prog 25 #[.agg #[.int .i64 a, .slice A xs.length c], .agg #[.int .i64 b, .slice A' ys.length c']] w (FrPost w (max (max 0 a) b) (jn xs ys)) := by
  obtain ⟨i0, hi, hz0, hz1, hz2⟩ := info_parts info3
  rw [show max (max 0 a) b = b by omega]
  have BW : Below w.heap.size w ((((w.alloc (.cells #[.int .i64 a, .slice A xs.length c] 24)).alloc (.cells #[.int .i64 b, .slice A' ys.length c'] 24)).alloc (.cells #[.int .i64 0, .slice none 0 0] 24)).alloc (.cells #[.int .i64 0, .slice none 0 0] 24)) := ((((Below.refl _ _).alloc (Nat.le_refl _) _).alloc (by simp) _).alloc (by simp; omega) _).alloc (by simp; omega) _
  go_enter Try.func25, Try.ntmps25
  go_wp2
  have J0 := jr_new w a b b A A' c c' xs ys
  generalize (((((w.alloc (.cells #[.int .i64 a, .slice A xs.length c] 24)).alloc (.cells #[.int .i64 b, .slice A' ys.length c'] 24))).alloc (.cells #[.int .i64 0, .slice none 0 0] 24)).alloc (.cells #[.int .i64 b, .slice none 0 0] 24)) = W0 at *
  clear BW
  go_loopw [6] (fun i wr => ∃ k : Nat, k ≤ max xs.length ys.length ∧ i = .int .i64 ((k : Int) + 1) ∧ Jr w wr a b (b) A A' c c' xs ys k) (fun i _ => 1002 - (intOf i).toNat)
  case atStart => exact ⟨0, by omega, rfl, J0⟩
  case round =>
    obtain ⟨k, hk, rfl, E, m, d, hC, hD, hX, hM, hown, hbel, hsz⟩ := hrel
    have F0 := Below.refl wr.heap.size wr
    obtain ⟨p0, p1⟩ := hC.rb
    obtain ⟨r0, r1⟩ := hD.rb
    by_cases hlt : k < max xs.length ys.length
    · have HO : ∀ W, Below wr.heap.size wr W → Hid (Calls Try.prog 24 #[.agg #[.int .i64 a, .slice A xs.length c], .int .i64 ((k : Int) + 1)] W (IntPost W (xs.getD k 0))) := fun W hW => by
        have := dep_any a A c W.heap.size xs ((k : Int) + 1) W (Nat.le_refl _) ((hx.to hbel hbel.size).up hW) (by omega)
        rw [dp_at] at this
        exact this
      have HP : ∀ W, Below wr.heap.size wr W → Hid (Calls Try.prog 24 #[.agg #[.int .i64 b, .slice A' ys.length c'], .int .i64 ((k : Int) + 1)] W (IntPost W (ys.getD k 0))) := fun W hW => by
        have := dep_any b A' c' W.heap.size ys ((k : Int) + 1) W (Nat.le_refl _) ((hy.to hbel hbel.size).up hW) (by omega)
        rw [dp_at] at this
        exact this
      have HTk := Lib.hid (jn_take xs ys hlt)
      have HXO : xs.length ≤ k → xs.getD k 0 = 0 := fun h => getD_out h
      generalize xs.getD k 0 = x at *
      generalize ys.getD k 0 = y at *
      by_cases g1 : (k : Int) + 1 ≤ (xs.length : Int)
      · clear HXO
        by_cases hx0 : 0 < x
        · by_cases hy0 : x < y
          · go_wp2_with fail
            refine (HO _ F0).out.mono ?_
            rintro e w1 ⟨rfl, B1⟩
            have F1 := F0.trans (B1.mono F0.size)
            obtain ⟨p0, p1⟩ := (hC.on F1 (by omega)).rb
            obtain ⟨r0, r1⟩ := (hD.on F1 (by omega)).rb
            go_wp2_with fail
            refine (HO _ F1).out.mono ?_
            rintro e w2 ⟨rfl, B2⟩
            have F2 := F1.trans (B2.mono F1.size)
            obtain ⟨p0, p1⟩ := (hC.on F2 (by omega)).rb
            obtain ⟨r0, r1⟩ := (hD.on F2 (by omega)).rb
            go_wp2_with fail
            refine (HP _ F2).out.mono ?_
            rintro e w3 ⟨rfl, B3⟩
            have F3 := F2.trans (B3.mono F2.size)
            obtain ⟨p0, p1⟩ := (hC.on F3 (by omega)).rb
            obtain ⟨r0, r1⟩ := (hD.on F3 (by omega)).rb
            go_wp2_with fail
            refine (HP _ F3).out.mono ?_
            rintro e w4 ⟨rfl, B4⟩
            have F4 := F3.trans (B4.mono F3.size)
            obtain ⟨p0, p1⟩ := (hC.on F4 (by omega)).rb
            obtain ⟨r0, r1⟩ := (hD.on F4 (by omega)).rb
            have M1 := hM.on F4 (by omega)
            have C1 := hC.on F4 (by omega)
            have D1 := hD.on F4 (by omega)
            have Y1 := hX.on F4 (by omega)
            have O1 := own_below hown F4
            have G1 := hbel.trans (F4.mono hbel.size)
            have z1 := F4.size
            obtain ⟨q0, q1⟩ := M1.rb
            have f1 := M1.free 1
            have hdd : Hid (max (max 0 x) y = y) := by show _ = _; omega
            clear HO HP hC hD hM hX hown hbel p0 p1 r0 r1 F0 F1 B1 F2 B2 F3 B3 F4 B4
            generalize w4 = V at *
            have CN : ∀ j u, [Value.int .i64 y][j]? = some u → (V.alloc (.cells #[.int .i64 y] 3)).cell? ((⟨V.heap.size, 0, none⟩ : Addr).add j) = some u := cell_one_new _ _ _
            have O2 := O1.alloc (.cells #[.int .i64 y] 3)
            have M2 := M1.old (.cells #[.int .i64 y] 3)
            have C2 := C1.old (.cells #[.int .i64 y] 3)
            have D2 := D1.old (.cells #[.int .i64 y] 3)
            have Y2 := Y1.old (.cells #[.int .i64 y] 3)
            have G2 := G1.alloc G1.size (.cells #[.int .i64 y] 3)
            have z2 : w.heap.size + 4 ≤ (V.alloc (.cells #[.int .i64 y] 3)).heap.size := by simp; omega
            go_wp2_with (at_builtin; refine wpList_append_own _ rfl (.tmp 56) (.tmp 58) 22 rfl (w.heap.size + 4) 3 i0 (.int .i64 0) 1 8 Try.underlying22 hi hz0 hz1 hz2 rfl (by decide) _ k (((jn xs ys).take k).map (Value.int .i64)) rfl O2 ⟨V.heap.size, 0, none⟩ 1 1 [.int .i64 y] rfl rfl CN (by intro u hu; simp at hu; subst hu; rfl) (by unfold maxLen; omega) (by omega) z2 ?_; intro v2 w9 hown9 hgrow9 _; have M9 := M2.grown O2 hgrow9 (by omega); have f9 := M9.free 1; have z9 := hgrow9.size; obtain ⟨E', m', c9, rfl, own9⟩ := jn_own HTk.out hdd.out hown9; obtain ⟨q2, q3⟩ := M9.rb)
            have C9 := C2.grown O2 hgrow9 (by omega)
            have D9 := D2.grown O2 hgrow9 (by omega)
            have Y9 := Y2.grown O2 hgrow9 (by omega)
            have G9 := G2.grown hgrow9 G2.size (fun q hq => by have := (O2.lt q hq).1; omega)
            go_roundw
            case rel =>
              exact ⟨k + 1, by omega, by go_num, E', m', c9, C9.other (by show w.heap.size ≠ w.heap.size + 1 + 1 + 1; omega) _, D9.other (by show w.heap.size + 1 ≠ w.heap.size + 1 + 1 + 1; omega) _, Y9.other (by show w.heap.size + 1 + 1 ≠ w.heap.size + 1 + 1 + 1; omega) _, M9.set1 _ _ _, own_set own9 (by omega) 1 _, G9.setCell (by show w.heap.size ≤ w.heap.size + 1 + 1 + 1; omega) _, by simp at z9 ⊢; omega⟩
            case measure => simp [intOf]; omega
          · go_wp2_with fail
            refine (HO _ F0).out.mono ?_
            rintro e w1 ⟨rfl, B1⟩
            have F1 := F0.trans (B1.mono F0.size)
            obtain ⟨p0, p1⟩ := (hC.on F1 (by omega)).rb
            obtain ⟨r0, r1⟩ := (hD.on F1 (by omega)).rb
            go_wp2_with fail
            refine (HO _ F1).out.mono ?_
            rintro e w2 ⟨rfl, B2⟩
            have F2 := F1.trans (B2.mono F1.size)
            obtain ⟨p0, p1⟩ := (hC.on F2 (by omega)).rb
            obtain ⟨r0, r1⟩ := (hD.on F2 (by omega)).rb
            go_wp2_with fail
            refine (HP _ F2).out.mono ?_
            rintro e w3 ⟨rfl, B3⟩
            have F3 := F2.trans (B3.mono F2.size)
            obtain ⟨p0, p1⟩ := (hC.on F3 (by omega)).rb
            obtain ⟨r0, r1⟩ := (hD.on F3 (by omega)).rb
            have M1 := hM.on F3 (by omega)
            have C1 := hC.on F3 (by omega)
            have D1 := hD.on F3 (by omega)
            have Y1 := hX.on F3 (by omega)
            have O1 := own_below hown F3
            have G1 := hbel.trans (F3.mono hbel.size)
            have z1 := F3.size
            obtain ⟨q0, q1⟩ := M1.rb
            have f1 := M1.free 1
            have hdd : Hid (max (max 0 x) y = x) := by show _ = _; omega
            clear HO HP hC hD hM hX hown hbel p0 p1 r0 r1 F0 F1 B1 F2 B2 F3 B3
            generalize w3 = V at *
            have CN : ∀ j u, [Value.int .i64 x][j]? = some u → (V.alloc (.cells #[.int .i64 x] 3)).cell? ((⟨V.heap.size, 0, none⟩ : Addr).add j) = some u := cell_one_new _ _ _
            have O2 := O1.alloc (.cells #[.int .i64 x] 3)
            have M2 := M1.old (.cells #[.int .i64 x] 3)
            have C2 := C1.old (.cells #[.int .i64 x] 3)
            have D2 := D1.old (.cells #[.int .i64 x] 3)
            have Y2 := Y1.old (.cells #[.int .i64 x] 3)
            have G2 := G1.alloc G1.size (.cells #[.int .i64 x] 3)
            have z2 : w.heap.size + 4 ≤ (V.alloc (.cells #[.int .i64 x] 3)).heap.size := by simp; omega
            go_wp2_with (at_builtin; refine wpList_append_own _ rfl (.tmp 56) (.tmp 58) 22 rfl (w.heap.size + 4) 3 i0 (.int .i64 0) 1 8 Try.underlying22 hi hz0 hz1 hz2 rfl (by decide) _ k (((jn xs ys).take k).map (Value.int .i64)) rfl O2 ⟨V.heap.size, 0, none⟩ 1 1 [.int .i64 x] rfl rfl CN (by intro u hu; simp at hu; subst hu; rfl) (by unfold maxLen; omega) (by omega) z2 ?_; intro v2 w9 hown9 hgrow9 _; have M9 := M2.grown O2 hgrow9 (by omega); have f9 := M9.free 1; have z9 := hgrow9.size; obtain ⟨E', m', c9, rfl, own9⟩ := jn_own HTk.out hdd.out hown9; obtain ⟨q2, q3⟩ := M9.rb)
            have C9 := C2.grown O2 hgrow9 (by omega)
            have D9 := D2.grown O2 hgrow9 (by omega)
            have Y9 := Y2.grown O2 hgrow9 (by omega)
            have G9 := G2.grown hgrow9 G2.size (fun q hq => by have := (O2.lt q hq).1; omega)
            go_roundw
            case rel =>
              exact ⟨k + 1, by omega, by go_num, E', m', c9, C9.other (by show w.heap.size ≠ w.heap.size + 1 + 1 + 1; omega) _, D9.other (by show w.heap.size + 1 ≠ w.heap.size + 1 + 1 + 1; omega) _, Y9.other (by show w.heap.size + 1 + 1 ≠ w.heap.size + 1 + 1 + 1; omega) _, M9.set1 _ _ _, own_set own9 (by omega) 1 _, G9.setCell (by show w.heap.size ≤ w.heap.size + 1 + 1 + 1; omega) _, by simp at z9 ⊢; omega⟩
            case measure => simp [intOf]; omega
        · by_cases hy0 : 0 < y
          · go_wp2_with fail
            refine (HO _ F0).out.mono ?_
            rintro e w1 ⟨rfl, B1⟩
            have F1 := F0.trans (B1.mono F0.size)
            obtain ⟨p0, p1⟩ := (hC.on F1 (by omega)).rb
            obtain ⟨r0, r1⟩ := (hD.on F1 (by omega)).rb
            go_wp2_with fail
            refine (HP _ F1).out.mono ?_
            rintro e w2 ⟨rfl, B2⟩
            have F2 := F1.trans (B2.mono F1.size)
            obtain ⟨p0, p1⟩ := (hC.on F2 (by omega)).rb
            obtain ⟨r0, r1⟩ := (hD.on F2 (by omega)).rb
            go_wp2_with fail
            refine (HP _ F2).out.mono ?_
            rintro e w3 ⟨rfl, B3⟩
            have F3 := F2.trans (B3.mono F2.size)
            obtain ⟨p0, p1⟩ := (hC.on F3 (by omega)).rb
            obtain ⟨r0, r1⟩ := (hD.on F3 (by omega)).rb
            have M1 := hM.on F3 (by omega)
            have C1 := hC.on F3 (by omega)
            have D1 := hD.on F3 (by omega)
            have Y1 := hX.on F3 (by omega)
            have O1 := own_below hown F3
            have G1 := hbel.trans (F3.mono hbel.size)
            have z1 := F3.size
            obtain ⟨q0, q1⟩ := M1.rb
            have f1 := M1.free 1
            have hdd : Hid (max (max 0 x) y = y) := by show _ = _; omega
            clear HO HP hC hD hM hX hown hbel p0 p1 r0 r1 F0 F1 B1 F2 B2 F3 B3
            generalize w3 = V at *
            have CN : ∀ j u, [Value.int .i64 y][j]? = some u → (V.alloc (.cells #[.int .i64 y] 3)).cell? ((⟨V.heap.size, 0, none⟩ : Addr).add j) = some u := cell_one_new _ _ _
            have O2 := O1.alloc (.cells #[.int .i64 y] 3)
            have M2 := M1.old (.cells #[.int .i64 y] 3)
            have C2 := C1.old (.cells #[.int .i64 y] 3)
            have D2 := D1.old (.cells #[.int .i64 y] 3)
            have Y2 := Y1.old (.cells #[.int .i64 y] 3)
            have G2 := G1.alloc G1.size (.cells #[.int .i64 y] 3)
            have z2 : w.heap.size + 4 ≤ (V.alloc (.cells #[.int .i64 y] 3)).heap.size := by simp; omega
            go_wp2_with (at_builtin; refine wpList_append_own _ rfl (.tmp 56) (.tmp 58) 22 rfl (w.heap.size + 4) 3 i0 (.int .i64 0) 1 8 Try.underlying22 hi hz0 hz1 hz2 rfl (by decide) _ k (((jn xs ys).take k).map (Value.int .i64)) rfl O2 ⟨V.heap.size, 0, none⟩ 1 1 [.int .i64 y] rfl rfl CN (by intro u hu; simp at hu; subst hu; rfl) (by unfold maxLen; omega) (by omega) z2 ?_; intro v2 w9 hown9 hgrow9 _; have M9 := M2.grown O2 hgrow9 (by omega); have f9 := M9.free 1; have z9 := hgrow9.size; obtain ⟨E', m', c9, rfl, own9⟩ := jn_own HTk.out hdd.out hown9; obtain ⟨q2, q3⟩ := M9.rb)
            have C9 := C2.grown O2 hgrow9 (by omega)
            have D9 := D2.grown O2 hgrow9 (by omega)
            have Y9 := Y2.grown O2 hgrow9 (by omega)
            have G9 := G2.grown hgrow9 G2.size (fun q hq => by have := (O2.lt q hq).1; omega)
            go_roundw
            case rel =>
              exact ⟨k + 1, by omega, by go_num, E', m', c9, C9.other (by show w.heap.size ≠ w.heap.size + 1 + 1 + 1; omega) _, D9.other (by show w.heap.size + 1 ≠ w.heap.size + 1 + 1 + 1; omega) _, Y9.other (by show w.heap.size + 1 + 1 ≠ w.heap.size + 1 + 1 + 1; omega) _, M9.set1 _ _ _, own_set own9 (by omega) 1 _, G9.setCell (by show w.heap.size ≤ w.heap.size + 1 + 1 + 1; omega) _, by simp at z9 ⊢; omega⟩
            case measure => simp [intOf]; omega
          · go_wp2_with fail
            refine (HO _ F0).out.mono ?_
            rintro e w1 ⟨rfl, B1⟩
            have F1 := F0.trans (B1.mono F0.size)
            obtain ⟨p0, p1⟩ := (hC.on F1 (by omega)).rb
            obtain ⟨r0, r1⟩ := (hD.on F1 (by omega)).rb
            go_wp2_with fail
            refine (HP _ F1).out.mono ?_
            rintro e w2 ⟨rfl, B2⟩
            have F2 := F1.trans (B2.mono F1.size)
            obtain ⟨p0, p1⟩ := (hC.on F2 (by omega)).rb
            obtain ⟨r0, r1⟩ := (hD.on F2 (by omega)).rb
            have M1 := hM.on F2 (by omega)
            have C1 := hC.on F2 (by omega)
            have D1 := hD.on F2 (by omega)
            have Y1 := hX.on F2 (by omega)
            have O1 := own_below hown F2
            have G1 := hbel.trans (F2.mono hbel.size)
            have z1 := F2.size
            obtain ⟨q0, q1⟩ := M1.rb
            have f1 := M1.free 1
            have hdd : Hid (max (max 0 x) y = 0) := by show _ = _; omega
            clear HO HP hC hD hM hX hown hbel p0 p1 r0 r1 F0 F1 B1 F2 B2
            generalize w2 = V at *
            have CN : ∀ j u, [Value.int .i64 0][j]? = some u → (V.alloc (.cells #[.int .i64 0] 3)).cell? ((⟨V.heap.size, 0, none⟩ : Addr).add j) = some u := cell_one_new _ _ _
            have O2 := O1.alloc (.cells #[.int .i64 0] 3)
            have M2 := M1.old (.cells #[.int .i64 0] 3)
            have C2 := C1.old (.cells #[.int .i64 0] 3)
            have D2 := D1.old (.cells #[.int .i64 0] 3)
            have Y2 := Y1.old (.cells #[.int .i64 0] 3)
            have G2 := G1.alloc G1.size (.cells #[.int .i64 0] 3)
            have z2 : w.heap.size + 4 ≤ (V.alloc (.cells #[.int .i64 0] 3)).heap.size := by simp; omega
            go_wp2_with (at_builtin; refine wpList_append_own _ rfl (.tmp 56) (.tmp 58) 22 rfl (w.heap.size + 4) 3 i0 (.int .i64 0) 1 8 Try.underlying22 hi hz0 hz1 hz2 rfl (by decide) _ k (((jn xs ys).take k).map (Value.int .i64)) rfl O2 ⟨V.heap.size, 0, none⟩ 1 1 [.int .i64 0] rfl rfl CN (by intro u hu; simp at hu; subst hu; rfl) (by unfold maxLen; omega) (by omega) z2 ?_; intro v2 w9 hown9 hgrow9 _; have M9 := M2.grown O2 hgrow9 (by omega); have f9 := M9.free 1; have z9 := hgrow9.size; obtain ⟨E', m', c9, rfl, own9⟩ := jn_own HTk.out hdd.out hown9; obtain ⟨q2, q3⟩ := M9.rb)
            have C9 := C2.grown O2 hgrow9 (by omega)
            have D9 := D2.grown O2 hgrow9 (by omega)
            have Y9 := Y2.grown O2 hgrow9 (by omega)
            have G9 := G2.grown hgrow9 G2.size (fun q hq => by have := (O2.lt q hq).1; omega)
            go_roundw
            case rel =>
              exact ⟨k + 1, by omega, by go_num, E', m', c9, C9.other (by show w.heap.size ≠ w.heap.size + 1 + 1 + 1; omega) _, D9.other (by show w.heap.size + 1 ≠ w.heap.size + 1 + 1 + 1; omega) _, Y9.other (by show w.heap.size + 1 + 1 ≠ w.heap.size + 1 + 1 + 1; omega) _, M9.set1 _ _ _, own_set own9 (by omega) 1 _, G9.setCell (by show w.heap.size ≤ w.heap.size + 1 + 1 + 1; omega) _, by simp at z9 ⊢; omega⟩
            case measure => simp [intOf]; omega
      · have g2 : (k : Int) + 1 ≤ (ys.length : Int) := by omega
        have hx00 := HXO (by omega)
        clear HXO
        subst hx00
        by_cases hy0 : 0 < y
        · go_wp2_with fail
          refine (HO _ F0).out.mono ?_
          rintro e w1 ⟨rfl, B1⟩
          have F1 := F0.trans (B1.mono F0.size)
          obtain ⟨p0, p1⟩ := (hC.on F1 (by omega)).rb
          obtain ⟨r0, r1⟩ := (hD.on F1 (by omega)).rb
          go_wp2_with fail
          refine (HP _ F1).out.mono ?_
          rintro e w2 ⟨rfl, B2⟩
          have F2 := F1.trans (B2.mono F1.size)
          obtain ⟨p0, p1⟩ := (hC.on F2 (by omega)).rb
          obtain ⟨r0, r1⟩ := (hD.on F2 (by omega)).rb
          go_wp2_with fail
          refine (HP _ F2).out.mono ?_
          rintro e w3 ⟨rfl, B3⟩
          have F3 := F2.trans (B3.mono F2.size)
          obtain ⟨p0, p1⟩ := (hC.on F3 (by omega)).rb
          obtain ⟨r0, r1⟩ := (hD.on F3 (by omega)).rb
          have M1 := hM.on F3 (by omega)
          have C1 := hC.on F3 (by omega)
          have D1 := hD.on F3 (by omega)
          have Y1 := hX.on F3 (by omega)
          have O1 := own_below hown F3
          have G1 := hbel.trans (F3.mono hbel.size)
          have z1 := F3.size
          obtain ⟨q0, q1⟩ := M1.rb
          have f1 := M1.free 1
          have hdd : Hid (max (max 0 0) y = y) := by show _ = _; omega
          clear HO HP hC hD hM hX hown hbel p0 p1 r0 r1 F0 F1 B1 F2 B2 F3 B3
          generalize w3 = V at *
          have CN : ∀ j u, [Value.int .i64 y][j]? = some u → (V.alloc (.cells #[.int .i64 y] 3)).cell? ((⟨V.heap.size, 0, none⟩ : Addr).add j) = some u := cell_one_new _ _ _
          have O2 := O1.alloc (.cells #[.int .i64 y] 3)
          have M2 := M1.old (.cells #[.int .i64 y] 3)
          have C2 := C1.old (.cells #[.int .i64 y] 3)
          have D2 := D1.old (.cells #[.int .i64 y] 3)
          have Y2 := Y1.old (.cells #[.int .i64 y] 3)
          have G2 := G1.alloc G1.size (.cells #[.int .i64 y] 3)
          have z2 : w.heap.size + 4 ≤ (V.alloc (.cells #[.int .i64 y] 3)).heap.size := by simp; omega
          go_wp2_with (at_builtin; refine wpList_append_own _ rfl (.tmp 56) (.tmp 58) 22 rfl (w.heap.size + 4) 3 i0 (.int .i64 0) 1 8 Try.underlying22 hi hz0 hz1 hz2 rfl (by decide) _ k (((jn xs ys).take k).map (Value.int .i64)) rfl O2 ⟨V.heap.size, 0, none⟩ 1 1 [.int .i64 y] rfl rfl CN (by intro u hu; simp at hu; subst hu; rfl) (by unfold maxLen; omega) (by omega) z2 ?_; intro v2 w9 hown9 hgrow9 _; have M9 := M2.grown O2 hgrow9 (by omega); have f9 := M9.free 1; have z9 := hgrow9.size; obtain ⟨E', m', c9, rfl, own9⟩ := jn_own HTk.out hdd.out hown9; obtain ⟨q2, q3⟩ := M9.rb)
          have C9 := C2.grown O2 hgrow9 (by omega)
          have D9 := D2.grown O2 hgrow9 (by omega)
          have Y9 := Y2.grown O2 hgrow9 (by omega)
          have G9 := G2.grown hgrow9 G2.size (fun q hq => by have := (O2.lt q hq).1; omega)
          go_roundw
          case rel =>
            exact ⟨k + 1, by omega, by go_num, E', m', c9, C9.other (by show w.heap.size ≠ w.heap.size + 1 + 1 + 1; omega) _, D9.other (by show w.heap.size + 1 ≠ w.heap.size + 1 + 1 + 1; omega) _, Y9.other (by show w.heap.size + 1 + 1 ≠ w.heap.size + 1 + 1 + 1; omega) _, M9.set1 _ _ _, own_set own9 (by omega) 1 _, G9.setCell (by show w.heap.size ≤ w.heap.size + 1 + 1 + 1; omega) _, by simp at z9 ⊢; omega⟩
          case measure => simp [intOf]; omega
        · go_wp2_with fail
          refine (HO _ F0).out.mono ?_
          rintro e w1 ⟨rfl, B1⟩
          have F1 := F0.trans (B1.mono F0.size)
          obtain ⟨p0, p1⟩ := (hC.on F1 (by omega)).rb
          obtain ⟨r0, r1⟩ := (hD.on F1 (by omega)).rb
          go_wp2_with fail
          refine (HP _ F1).out.mono ?_
          rintro e w2 ⟨rfl, B2⟩
          have F2 := F1.trans (B2.mono F1.size)
          obtain ⟨p0, p1⟩ := (hC.on F2 (by omega)).rb
          obtain ⟨r0, r1⟩ := (hD.on F2 (by omega)).rb
          have M1 := hM.on F2 (by omega)
          have C1 := hC.on F2 (by omega)
          have D1 := hD.on F2 (by omega)
          have Y1 := hX.on F2 (by omega)
          have O1 := own_below hown F2
          have G1 := hbel.trans (F2.mono hbel.size)
          have z1 := F2.size
          obtain ⟨q0, q1⟩ := M1.rb
          have f1 := M1.free 1
          have hdd : Hid (max (max 0 0) y = 0) := by show _ = _; omega
          clear HO HP hC hD hM hX hown hbel p0 p1 r0 r1 F0 F1 B1 F2 B2
          generalize w2 = V at *
          have CN : ∀ j u, [Value.int .i64 0][j]? = some u → (V.alloc (.cells #[.int .i64 0] 3)).cell? ((⟨V.heap.size, 0, none⟩ : Addr).add j) = some u := cell_one_new _ _ _
          have O2 := O1.alloc (.cells #[.int .i64 0] 3)
          have M2 := M1.old (.cells #[.int .i64 0] 3)
          have C2 := C1.old (.cells #[.int .i64 0] 3)
          have D2 := D1.old (.cells #[.int .i64 0] 3)
          have Y2 := Y1.old (.cells #[.int .i64 0] 3)
          have G2 := G1.alloc G1.size (.cells #[.int .i64 0] 3)
          have z2 : w.heap.size + 4 ≤ (V.alloc (.cells #[.int .i64 0] 3)).heap.size := by simp; omega
          go_wp2_with (at_builtin; refine wpList_append_own _ rfl (.tmp 56) (.tmp 58) 22 rfl (w.heap.size + 4) 3 i0 (.int .i64 0) 1 8 Try.underlying22 hi hz0 hz1 hz2 rfl (by decide) _ k (((jn xs ys).take k).map (Value.int .i64)) rfl O2 ⟨V.heap.size, 0, none⟩ 1 1 [.int .i64 0] rfl rfl CN (by intro u hu; simp at hu; subst hu; rfl) (by unfold maxLen; omega) (by omega) z2 ?_; intro v2 w9 hown9 hgrow9 _; have M9 := M2.grown O2 hgrow9 (by omega); have f9 := M9.free 1; have z9 := hgrow9.size; obtain ⟨E', m', c9, rfl, own9⟩ := jn_own HTk.out hdd.out hown9; obtain ⟨q2, q3⟩ := M9.rb)
          have C9 := C2.grown O2 hgrow9 (by omega)
          have D9 := D2.grown O2 hgrow9 (by omega)
          have Y9 := Y2.grown O2 hgrow9 (by omega)
          have G9 := G2.grown hgrow9 G2.size (fun q hq => by have := (O2.lt q hq).1; omega)
          go_roundw
          case rel =>
            exact ⟨k + 1, by omega, by go_num, E', m', c9, C9.other (by show w.heap.size ≠ w.heap.size + 1 + 1 + 1; omega) _, D9.other (by show w.heap.size + 1 ≠ w.heap.size + 1 + 1 + 1; omega) _, Y9.other (by show w.heap.size + 1 + 1 ≠ w.heap.size + 1 + 1 + 1; omega) _, M9.set1 _ _ _, own_set own9 (by omega) 1 _, G9.setCell (by show w.heap.size ≤ w.heap.size + 1 + 1 + 1; omega) _, by simp at z9 ⊢; omega⟩
          case measure => simp [intOf]; omega
    · have g1 : ¬ (k : Int) + 1 ≤ (xs.length : Int) := by omega
      have g2 : ¬ (k : Int) + 1 ≤ (ys.length : Int) := by omega
      obtain rfl : k = max xs.length ys.length := by omega
      rw [List.take_of_length_le (by rw [jn_len]; omega)] at hown
      have hjl : (jn xs ys).length = max xs.length ys.length := jn_len xs ys
      rw [← hjl] at hown g1 g2
      obtain ⟨E', c9, hv, hsl, _⟩ := own_slice hown
      simp only [Value.slice.injEq] at hv
      obtain ⟨rfl, rfl, rfl⟩ := hv
      have hk9 : (jn xs ys).length ≤ 1000 := by omega
      rw [← hjl]
      obtain ⟨q0, q1⟩ := hM.rb
      obtain ⟨t0, t1⟩ := hX.rb
      have f0 := hX.free 0
      have f1 := hX.free 1
      clear hjl hk hlt
      generalize jn xs ys = zs at *
      go_wp2
      have X9 : Ax ((wr.setCell ⟨w.heap.size + 1 + 1, 0, none⟩ (.int .i64 b)).setCell ⟨w.heap.size + 1 + 1, 1, none⟩ (.slice E zs.length d)) (w.heap.size + 1 + 1) b E zs.length d := (hX.set0 b).set1 _ _ _
      have O9 := own_set (own_set hown (M := w.heap.size + 1 + 1) (by omega) 0 (.int .i64 b)) (M := w.heap.size + 1 + 1) (by omega) 1 (.slice E zs.length d)
      have E9 : Below w.heap.size w ((wr.setCell ⟨w.heap.size + 1 + 1, 0, none⟩ (.int .i64 b)).setCell ⟨w.heap.size + 1 + 1, 1, none⟩ (.slice E zs.length d)) := (hbel.setCell (by show w.heap.size ≤ w.heap.size + 1 + 1; omega) _).setCell (by show w.heap.size ≤ w.heap.size + 1 + 1; omega) _
      obtain ⟨E2, c2, hv2, hs2, hf2⟩ := own_fresh O9
      simp only [Value.slice.injEq] at hv2
      obtain ⟨rfl, _, rfl⟩ := hv2
      exact bodyPost_ret (run_res25 (B := w.heap.size + 1 + 1) rfl X9.rb) rfl ⟨_, _, rfl, hs2, E9, fr_le hf2 (by omega)⟩

set_option maxHeartbeats 8000000 in
theorem rmerge4 (a b : Int) (A A' : Option Addr) (c c' : Nat) (xs ys : List Int) (w : World) (hx : Sl w w.heap.size .i64 A xs) (hy : Sl w w.heap.size .i64 A' ys) (lx : xs.length ≤ 1000) (ly : ys.length ≤ 1000) (ha : ¬ 0 < a) (hb : ¬ 0 < b) : Calls Try.prog 25 #[.agg #[.int .i64 a, .slice A xs.length c], .agg #[.int .i64 b, .slice A' ys.length c']] w (FrPost w (max (max 0 a) b) (jn xs ys)) := by
  obtain ⟨i0, hi, hz0, hz1, hz2⟩ := info_parts info3
  rw [show max (max 0 a) b = 0 by omega]
  have BW : Below w.heap.size w ((((w.alloc (.cells #[.int .i64 a, .slice A xs.length c] 24)).alloc (.cells #[.int .i64 b, .slice A' ys.length c'] 24)).alloc (.cells #[.int .i64 0, .slice none 0 0] 24)).alloc (.cells #[.int .i64 0, .slice none 0 0] 24)) := ((((Below.refl _ _).alloc (Nat.le_refl _) _).alloc (by simp) _).alloc (by simp; omega) _).alloc (by simp; omega) _
  go_enter Try.func25, Try.ntmps25
  go_wp2
  have J0 := jr_new w a b 0 A A' c c' xs ys
  generalize (((((w.alloc (.cells #[.int .i64 a, .slice A xs.length c] 24)).alloc (.cells #[.int .i64 b, .slice A' ys.length c'] 24))).alloc (.cells #[.int .i64 0, .slice none 0 0] 24)).alloc (.cells #[.int .i64 0, .slice none 0 0] 24)) = W0 at *
  clear BW
  go_loopw [6] (fun i wr => ∃ k : Nat, k ≤ max xs.length ys.length ∧ i = .int .i64 ((k : Int) + 1) ∧ Jr w wr a b (0) A A' c c' xs ys k) (fun i _ => 1002 - (intOf i).toNat)
  case atStart => exact ⟨0, by omega, rfl, J0⟩
  case round =>
    obtain ⟨k, hk, rfl, E, m, d, hC, hD, hX, hM, hown, hbel, hsz⟩ := hrel
    have F0 := Below.refl wr.heap.size wr
    obtain ⟨p0, p1⟩ := hC.rb
    obtain ⟨r0, r1⟩ := hD.rb
    by_cases hlt : k < max xs.length ys.length
    · have HO : ∀ W, Below wr.heap.size wr W → Hid (Calls Try.prog 24 #[.agg #[.int .i64 a, .slice A xs.length c], .int .i64 ((k : Int) + 1)] W (IntPost W (xs.getD k 0))) := fun W hW => by
        have := dep_any a A c W.heap.size xs ((k : Int) + 1) W (Nat.le_refl _) ((hx.to hbel hbel.size).up hW) (by omega)
        rw [dp_at] at this
        exact this
      have HP : ∀ W, Below wr.heap.size wr W → Hid (Calls Try.prog 24 #[.agg #[.int .i64 b, .slice A' ys.length c'], .int .i64 ((k : Int) + 1)] W (IntPost W (ys.getD k 0))) := fun W hW => by
        have := dep_any b A' c' W.heap.size ys ((k : Int) + 1) W (Nat.le_refl _) ((hy.to hbel hbel.size).up hW) (by omega)
        rw [dp_at] at this
        exact this
      have HTk := Lib.hid (jn_take xs ys hlt)
      have HXO : xs.length ≤ k → xs.getD k 0 = 0 := fun h => getD_out h
      generalize xs.getD k 0 = x at *
      generalize ys.getD k 0 = y at *
      by_cases g1 : (k : Int) + 1 ≤ (xs.length : Int)
      · clear HXO
        by_cases hx0 : 0 < x
        · by_cases hy0 : x < y
          · go_wp2_with fail
            refine (HO _ F0).out.mono ?_
            rintro e w1 ⟨rfl, B1⟩
            have F1 := F0.trans (B1.mono F0.size)
            obtain ⟨p0, p1⟩ := (hC.on F1 (by omega)).rb
            obtain ⟨r0, r1⟩ := (hD.on F1 (by omega)).rb
            go_wp2_with fail
            refine (HO _ F1).out.mono ?_
            rintro e w2 ⟨rfl, B2⟩
            have F2 := F1.trans (B2.mono F1.size)
            obtain ⟨p0, p1⟩ := (hC.on F2 (by omega)).rb
            obtain ⟨r0, r1⟩ := (hD.on F2 (by omega)).rb
            go_wp2_with fail
            refine (HP _ F2).out.mono ?_
            rintro e w3 ⟨rfl, B3⟩
            have F3 := F2.trans (B3.mono F2.size)
            obtain ⟨p0, p1⟩ := (hC.on F3 (by omega)).rb
            obtain ⟨r0, r1⟩ := (hD.on F3 (by omega)).rb
            go_wp2_with fail
            refine (HP _ F3).out.mono ?_
            rintro e w4 ⟨rfl, B4⟩
            have F4 := F3.trans (B4.mono F3.size)
            obtain ⟨p0, p1⟩ := (hC.on F4 (by omega)).rb
            obtain ⟨r0, r1⟩ := (hD.on F4 (by omega)).rb
            have M1 := hM.on F4 (by omega)
            have C1 := hC.on F4 (by omega)
            have D1 := hD.on F4 (by omega)
            have Y1 := hX.on F4 (by omega)
            have O1 := own_below hown F4
            have G1 := hbel.trans (F4.mono hbel.size)
            have z1 := F4.size
            obtain ⟨q0, q1⟩ := M1.rb
            have f1 := M1.free 1
            have hdd : Hid (max (max 0 x) y = y) := by show _ = _; omega
            clear HO HP hC hD hM hX hown hbel p0 p1 r0 r1 F0 F1 B1 F2 B2 F3 B3 F4 B4
            generalize w4 = V at *
            have CN : ∀ j u, [Value.int .i64 y][j]? = some u → (V.alloc (.cells #[.int .i64 y] 3)).cell? ((⟨V.heap.size, 0, none⟩ : Addr).add j) = some u := cell_one_new _ _ _
            have O2 := O1.alloc (.cells #[.int .i64 y] 3)
            have M2 := M1.old (.cells #[.int .i64 y] 3)
            have C2 := C1.old (.cells #[.int .i64 y] 3)
            have D2 := D1.old (.cells #[.int .i64 y] 3)
            have Y2 := Y1.old (.cells #[.int .i64 y] 3)
            have G2 := G1.alloc G1.size (.cells #[.int .i64 y] 3)
            have z2 : w.heap.size + 4 ≤ (V.alloc (.cells #[.int .i64 y] 3)).heap.size := by simp; omega
            go_wp2_with (at_builtin; refine wpList_append_own _ rfl (.tmp 56) (.tmp 58) 22 rfl (w.heap.size + 4) 3 i0 (.int .i64 0) 1 8 Try.underlying22 hi hz0 hz1 hz2 rfl (by decide) _ k (((jn xs ys).take k).map (Value.int .i64)) rfl O2 ⟨V.heap.size, 0, none⟩ 1 1 [.int .i64 y] rfl rfl CN (by intro u hu; simp at hu; subst hu; rfl) (by unfold maxLen; omega) (by omega) z2 ?_; intro v2 w9 hown9 hgrow9 _; have M9 := M2.grown O2 hgrow9 (by omega); have f9 := M9.free 1; have z9 := hgrow9.size; obtain ⟨E', m', c9, rfl, own9⟩ := jn_own HTk.out hdd.out hown9; obtain ⟨q2, q3⟩ := M9.rb)
            have C9 := C2.grown O2 hgrow9 (by omega)
            have D9 := D2.grown O2 hgrow9 (by omega)
            have Y9 := Y2.grown O2 hgrow9 (by omega)
            have G9 := G2.grown hgrow9 G2.size (fun q hq => by have := (O2.lt q hq).1; omega)
            go_roundw
            case rel =>
              exact ⟨k + 1, by omega, by go_num, E', m', c9, C9.other (by show w.heap.size ≠ w.heap.size + 1 + 1 + 1; omega) _, D9.other (by show w.heap.size + 1 ≠ w.heap.size + 1 + 1 + 1; omega) _, Y9.other (by show w.heap.size + 1 + 1 ≠ w.heap.size + 1 + 1 + 1; omega) _, M9.set1 _ _ _, own_set own9 (by omega) 1 _, G9.setCell (by show w.heap.size ≤ w.heap.size + 1 + 1 + 1; omega) _, by simp at z9 ⊢; omega⟩
            case measure => simp [intOf]; omega
          · go_wp2_with fail
            refine (HO _ F0).out.mono ?_
            rintro e w1 ⟨rfl, B1⟩
            have F1 := F0.trans (B1.mono F0.size)
            obtain ⟨p0, p1⟩ := (hC.on F1 (by omega)).rb
            obtain ⟨r0, r1⟩ := (hD.on F1 (by omega)).rb
            go_wp2_with fail
            refine (HO _ F1).out.mono ?_
            rintro e w2 ⟨rfl, B2⟩
            have F2 := F1.trans (B2.mono F1.size)
            obtain ⟨p0, p1⟩ := (hC.on F2 (by omega)).rb
            obtain ⟨r0, r1⟩ := (hD.on F2 (by omega)).rb
            go_wp2_with fail
            refine (HP _ F2).out.mono ?_
            rintro e w3 ⟨rfl, B3⟩
            have F3 := F2.trans (B3.mono F2.size)
            obtain ⟨p0, p1⟩ := (hC.on F3 (by omega)).rb
            obtain ⟨r0, r1⟩ := (hD.on F3 (by omega)).rb
            have M1 := hM.on F3 (by omega)
            have C1 := hC.on F3 (by omega)
            have D1 := hD.on F3 (by omega)
            have Y1 := hX.on F3 (by omega)
            have O1 := own_below hown F3
            have G1 := hbel.trans (F3.mono hbel.size)
            have z1 := F3.size
            obtain ⟨q0, q1⟩ := M1.rb
            have f1 := M1.free 1
            have hdd : Hid (max (max 0 x) y = x) := by show _ = _; omega
            clear HO HP hC hD hM hX hown hbel p0 p1 r0 r1 F0 F1 B1 F2 B2 F3 B3
            generalize w3 = V at *
            have CN : ∀ j u, [Value.int .i64 x][j]? = some u → (V.alloc (.cells #[.int .i64 x] 3)).cell? ((⟨V.heap.size, 0, none⟩ : Addr).add j) = some u := cell_one_new _ _ _
            have O2 := O1.alloc (.cells #[.int .i64 x] 3)
            have M2 := M1.old (.cells #[.int .i64 x] 3)
            have C2 := C1.old (.cells #[.int .i64 x] 3)
            have D2 := D1.old (.cells #[.int .i64 x] 3)
            have Y2 := Y1.old (.cells #[.int .i64 x] 3)
            have G2 := G1.alloc G1.size (.cells #[.int .i64 x] 3)
            have z2 : w.heap.size + 4 ≤ (V.alloc (.cells #[.int .i64 x] 3)).heap.size := by simp; omega
            go_wp2_with (at_builtin; refine wpList_append_own _ rfl (.tmp 56) (.tmp 58) 22 rfl (w.heap.size + 4) 3 i0 (.int .i64 0) 1 8 Try.underlying22 hi hz0 hz1 hz2 rfl (by decide) _ k (((jn xs ys).take k).map (Value.int .i64)) rfl O2 ⟨V.heap.size, 0, none⟩ 1 1 [.int .i64 x] rfl rfl CN (by intro u hu; simp at hu; subst hu; rfl) (by unfold maxLen; omega) (by omega) z2 ?_; intro v2 w9 hown9 hgrow9 _; have M9 := M2.grown O2 hgrow9 (by omega); have f9 := M9.free 1; have z9 := hgrow9.size; obtain ⟨E', m', c9, rfl, own9⟩ := jn_own HTk.out hdd.out hown9; obtain ⟨q2, q3⟩ := M9.rb)
            have C9 := C2.grown O2 hgrow9 (by omega)
            have D9 := D2.grown O2 hgrow9 (by omega)
            have Y9 := Y2.grown O2 hgrow9 (by omega)
            have G9 := G2.grown hgrow9 G2.size (fun q hq => by have := (O2.lt q hq).1; omega)
            go_roundw
            case rel =>
              exact ⟨k + 1, by omega, by go_num, E', m', c9, C9.other (by show w.heap.size ≠ w.heap.size + 1 + 1 + 1; omega) _, D9.other (by show w.heap.size + 1 ≠ w.heap.size + 1 + 1 + 1; omega) _, Y9.other (by show w.heap.size + 1 + 1 ≠ w.heap.size + 1 + 1 + 1; omega) _, M9.set1 _ _ _, own_set own9 (by omega) 1 _, G9.setCell (by show w.heap.size ≤ w.heap.size + 1 + 1 + 1; omega) _, by simp at z9 ⊢; omega⟩
            case measure => simp [intOf]; omega
        · by_cases hy0 : 0 < y
          · go_wp2_with fail
            refine (HO _ F0).out.mono ?_
            rintro e w1 ⟨rfl, B1⟩
            have F1 := F0.trans (B1.mono F0.size)
            obtain ⟨p0, p1⟩ := (hC.on F1 (by omega)).rb
            obtain ⟨r0, r1⟩ := (hD.on F1 (by omega)).rb
            go_wp2_with fail
            refine (HP _ F1).out.mono ?_
            rintro e w2 ⟨rfl, B2⟩
            have F2 := F1.trans (B2.mono F1.size)
            obtain ⟨p0, p1⟩ := (hC.on F2 (by omega)).rb
            obtain ⟨r0, r1⟩ := (hD.on F2 (by omega)).rb
            go_wp2_with fail
            refine (HP _ F2).out.mono ?_
            rintro e w3 ⟨rfl, B3⟩
            have F3 := F2.trans (B3.mono F2.size)
            obtain ⟨p0, p1⟩ := (hC.on F3 (by omega)).rb
            obtain ⟨r0, r1⟩ := (hD.on F3 (by omega)).rb
            have M1 := hM.on F3 (by omega)
            have C1 := hC.on F3 (by omega)
            have D1 := hD.on F3 (by omega)
            have Y1 := hX.on F3 (by omega)
            have O1 := own_below hown F3
            have G1 := hbel.trans (F3.mono hbel.size)
            have z1 := F3.size
            obtain ⟨q0, q1⟩ := M1.rb
            have f1 := M1.free 1
            have hdd : Hid (max (max 0 x) y = y) := by show _ = _; omega
            clear HO HP hC hD hM hX hown hbel p0 p1 r0 r1 F0 F1 B1 F2 B2 F3 B3
            generalize w3 = V at *
            have CN : ∀ j u, [Value.int .i64 y][j]? = some u → (V.alloc (.cells #[.int .i64 y] 3)).cell? ((⟨V.heap.size, 0, none⟩ : Addr).add j) = some u := cell_one_new _ _ _
            have O2 := O1.alloc (.cells #[.int .i64 y] 3)
            have M2 := M1.old (.cells #[.int .i64 y] 3)
            have C2 := C1.old (.cells #[.int .i64 y] 3)
            have D2 := D1.old (.cells #[.int .i64 y] 3)
            have Y2 := Y1.old (.cells #[.int .i64 y] 3)
            have G2 := G1.alloc G1.size (.cells #[.int .i64 y] 3)
            have z2 : w.heap.size + 4 ≤ (V.alloc (.cells #[.int .i64 y] 3)).heap.size := by simp; omega
            go_wp2_with (at_builtin; refine wpList_append_own _ rfl (.tmp 56) (.tmp 58) 22 rfl (w.heap.size + 4) 3 i0 (.int .i64 0) 1 8 Try.underlying22 hi hz0 hz1 hz2 rfl (by decide) _ k (((jn xs ys).take k).map (Value.int .i64)) rfl O2 ⟨V.heap.size, 0, none⟩ 1 1 [.int .i64 y] rfl rfl CN (by intro u hu; simp at hu; subst hu; rfl) (by unfold maxLen; omega) (by omega) z2 ?_; intro v2 w9 hown9 hgrow9 _; have M9 := M2.grown O2 hgrow9 (by omega); have f9 := M9.free 1; have z9 := hgrow9.size; obtain ⟨E', m', c9, rfl, own9⟩ := jn_own HTk.out hdd.out hown9; obtain ⟨q2, q3⟩ := M9.rb)
            have C9 := C2.grown O2 hgrow9 (by omega)
            have D9 := D2.grown O2 hgrow9 (by omega)
            have Y9 := Y2.grown O2 hgrow9 (by omega)
            have G9 := G2.grown hgrow9 G2.size (fun q hq => by have := (O2.lt q hq).1; omega)
            go_roundw
            case rel =>
              exact ⟨k + 1, by omega, by go_num, E', m', c9, C9.other (by show w.heap.size ≠ w.heap.size + 1 + 1 + 1; omega) _, D9.other (by show w.heap.size + 1 ≠ w.heap.size + 1 + 1 + 1; omega) _, Y9.other (by show w.heap.size + 1 + 1 ≠ w.heap.size + 1 + 1 + 1; omega) _, M9.set1 _ _ _, own_set own9 (by omega) 1 _, G9.setCell (by show w.heap.size ≤ w.heap.size + 1 + 1 + 1; omega) _, by simp at z9 ⊢; omega⟩
            case measure => simp [intOf]; omega
          · go_wp2_with fail
            refine (HO _ F0).out.mono ?_
            rintro e w1 ⟨rfl, B1⟩
            have F1 := F0.trans (B1.mono F0.size)
            obtain ⟨p0, p1⟩ := (hC.on F1 (by omega)).rb
            obtain ⟨r0, r1⟩ := (hD.on F1 (by omega)).rb
            go_wp2_with fail
            refine (HP _ F1).out.mono ?_
            rintro e w2 ⟨rfl, B2⟩
            have F2 := F1.trans (B2.mono F1.size)
            obtain ⟨p0, p1⟩ := (hC.on F2 (by omega)).rb
            obtain ⟨r0, r1⟩ := (hD.on F2 (by omega)).rb
            have M1 := hM.on F2 (by omega)
            have C1 := hC.on F2 (by omega)
            have D1 := hD.on F2 (by omega)
            have Y1 := hX.on F2 (by omega)
            have O1 := own_below hown F2
            have G1 := hbel.trans (F2.mono hbel.size)
            have z1 := F2.size
            obtain ⟨q0, q1⟩ := M1.rb
            have f1 := M1.free 1
            have hdd : Hid (max (max 0 x) y = 0) := by show _ = _; omega
            clear HO HP hC hD hM hX hown hbel p0 p1 r0 r1 F0 F1 B1 F2 B2
            generalize w2 = V at *
            have CN : ∀ j u, [Value.int .i64 0][j]? = some u → (V.alloc (.cells #[.int .i64 0] 3)).cell? ((⟨V.heap.size, 0, none⟩ : Addr).add j) = some u := cell_one_new _ _ _
            have O2 := O1.alloc (.cells #[.int .i64 0] 3)
            have M2 := M1.old (.cells #[.int .i64 0] 3)
            have C2 := C1.old (.cells #[.int .i64 0] 3)
            have D2 := D1.old (.cells #[.int .i64 0] 3)
            have Y2 := Y1.old (.cells #[.int .i64 0] 3)
            have G2 := G1.alloc G1.size (.cells #[.int .i64 0] 3)
            have z2 : w.heap.size + 4 ≤ (V.alloc (.cells #[.int .i64 0] 3)).heap.size := by simp; omega
            go_wp2_with (at_builtin; refine wpList_append_own _ rfl (.tmp 56) (.tmp 58) 22 rfl (w.heap.size + 4) 3 i0 (.int .i64 0) 1 8 Try.underlying22 hi hz0 hz1 hz2 rfl (by decide) _ k (((jn xs ys).take k).map (Value.int .i64)) rfl O2 ⟨V.heap.size, 0, none⟩ 1 1 [.int .i64 0] rfl rfl CN (by intro u hu; simp at hu; subst hu; rfl) (by unfold maxLen; omega) (by omega) z2 ?_; intro v2 w9 hown9 hgrow9 _; have M9 := M2.grown O2 hgrow9 (by omega); have f9 := M9.free 1; have z9 := hgrow9.size; obtain ⟨E', m', c9, rfl, own9⟩ := jn_own HTk.out hdd.out hown9; obtain ⟨q2, q3⟩ := M9.rb)
            have C9 := C2.grown O2 hgrow9 (by omega)
            have D9 := D2.grown O2 hgrow9 (by omega)
            have Y9 := Y2.grown O2 hgrow9 (by omega)
            have G9 := G2.grown hgrow9 G2.size (fun q hq => by have := (O2.lt q hq).1; omega)
            go_roundw
            case rel =>
              exact ⟨k + 1, by omega, by go_num, E', m', c9, C9.other (by show w.heap.size ≠ w.heap.size + 1 + 1 + 1; omega) _, D9.other (by show w.heap.size + 1 ≠ w.heap.size + 1 + 1 + 1; omega) _, Y9.other (by show w.heap.size + 1 + 1 ≠ w.heap.size + 1 + 1 + 1; omega) _, M9.set1 _ _ _, own_set own9 (by omega) 1 _, G9.setCell (by show w.heap.size ≤ w.heap.size + 1 + 1 + 1; omega) _, by simp at z9 ⊢; omega⟩
            case measure => simp [intOf]; omega
      · have g2 : (k : Int) + 1 ≤ (ys.length : Int) := by omega
        have hx00 := HXO (by omega)
        clear HXO
        subst hx00
        by_cases hy0 : 0 < y
        · go_wp2_with fail
          refine (HO _ F0).out.mono ?_
          rintro e w1 ⟨rfl, B1⟩
          have F1 := F0.trans (B1.mono F0.size)
          obtain ⟨p0, p1⟩ := (hC.on F1 (by omega)).rb
          obtain ⟨r0, r1⟩ := (hD.on F1 (by omega)).rb
          go_wp2_with fail
          refine (HP _ F1).out.mono ?_
          rintro e w2 ⟨rfl, B2⟩
          have F2 := F1.trans (B2.mono F1.size)
          obtain ⟨p0, p1⟩ := (hC.on F2 (by omega)).rb
          obtain ⟨r0, r1⟩ := (hD.on F2 (by omega)).rb
          go_wp2_with fail
          refine (HP _ F2).out.mono ?_
          rintro e w3 ⟨rfl, B3⟩
          have F3 := F2.trans (B3.mono F2.size)
          obtain ⟨p0, p1⟩ := (hC.on F3 (by omega)).rb
          obtain ⟨r0, r1⟩ := (hD.on F3 (by omega)).rb
          have M1 := hM.on F3 (by omega)
          have C1 := hC.on F3 (by omega)
          have D1 := hD.on F3 (by omega)
          have Y1 := hX.on F3 (by omega)
          have O1 := own_below hown F3
          have G1 := hbel.trans (F3.mono hbel.size)
          have z1 := F3.size
          obtain ⟨q0, q1⟩ := M1.rb
          have f1 := M1.free 1
          have hdd : Hid (max (max 0 0) y = y) := by show _ = _; omega
          clear HO HP hC hD hM hX hown hbel p0 p1 r0 r1 F0 F1 B1 F2 B2 F3 B3
          generalize w3 = V at *
          have CN : ∀ j u, [Value.int .i64 y][j]? = some u → (V.alloc (.cells #[.int .i64 y] 3)).cell? ((⟨V.heap.size, 0, none⟩ : Addr).add j) = some u := cell_one_new _ _ _
          have O2 := O1.alloc (.cells #[.int .i64 y] 3)
          have M2 := M1.old (.cells #[.int .i64 y] 3)
          have C2 := C1.old (.cells #[.int .i64 y] 3)
          have D2 := D1.old (.cells #[.int .i64 y] 3)
          have Y2 := Y1.old (.cells #[.int .i64 y] 3)
          have G2 := G1.alloc G1.size (.cells #[.int .i64 y] 3)
          have z2 : w.heap.size + 4 ≤ (V.alloc (.cells #[.int .i64 y] 3)).heap.size := by simp; omega
          go_wp2_with (at_builtin; refine wpList_append_own _ rfl (.tmp 56) (.tmp 58) 22 rfl (w.heap.size + 4) 3 i0 (.int .i64 0) 1 8 Try.underlying22 hi hz0 hz1 hz2 rfl (by decide) _ k (((jn xs ys).take k).map (Value.int .i64)) rfl O2 ⟨V.heap.size, 0, none⟩ 1 1 [.int .i64 y] rfl rfl CN (by intro u hu; simp at hu; subst hu; rfl) (by unfold maxLen; omega) (by omega) z2 ?_; intro v2 w9 hown9 hgrow9 _; have M9 := M2.grown O2 hgrow9 (by omega); have f9 := M9.free 1; have z9 := hgrow9.size; obtain ⟨E', m', c9, rfl, own9⟩ := jn_own HTk.out hdd.out hown9; obtain ⟨q2, q3⟩ := M9.rb)
          have C9 := C2.grown O2 hgrow9 (by omega)
          have D9 := D2.grown O2 hgrow9 (by omega)
          have Y9 := Y2.grown O2 hgrow9 (by omega)
          have G9 := G2.grown hgrow9 G2.size (fun q hq => by have := (O2.lt q hq).1; omega)
          go_roundw
          case rel =>
            exact ⟨k + 1, by omega, by go_num, E', m', c9, C9.other (by show w.heap.size ≠ w.heap.size + 1 + 1 + 1; omega) _, D9.other (by show w.heap.size + 1 ≠ w.heap.size + 1 + 1 + 1; omega) _, Y9.other (by show w.heap.size + 1 + 1 ≠ w.heap.size + 1 + 1 + 1; omega) _, M9.set1 _ _ _, own_set own9 (by omega) 1 _, G9.setCell (by show w.heap.size ≤ w.heap.size + 1 + 1 + 1; omega) _, by simp at z9 ⊢; omega⟩
          case measure => simp [intOf]; omega
        · go_wp2_with fail
          refine (HO _ F0).out.mono ?_
          rintro e w1 ⟨rfl, B1⟩
          have F1 := F0.trans (B1.mono F0.size)
          obtain ⟨p0, p1⟩ := (hC.on F1 (by omega)).rb
          obtain ⟨r0, r1⟩ := (hD.on F1 (by omega)).rb
          go_wp2_with fail
          refine (HP _ F1).out.mono ?_
          rintro e w2 ⟨rfl, B2⟩
          have F2 := F1.trans (B2.mono F1.size)
          obtain ⟨p0, p1⟩ := (hC.on F2 (by omega)).rb
          obtain ⟨r0, r1⟩ := (hD.on F2 (by omega)).rb
          have M1 := hM.on F2 (by omega)
          have C1 := hC.on F2 (by omega)
          have D1 := hD.on F2 (by omega)
          have Y1 := hX.on F2 (by omega)
          have O1 := own_below hown F2
          have G1 := hbel.trans (F2.mono hbel.size)
          have z1 := F2.size
          obtain ⟨q0, q1⟩ := M1.rb
          have f1 := M1.free 1
          have hdd : Hid (max (max 0 0) y = 0) := by show _ = _; omega
          clear HO HP hC hD hM hX hown hbel p0 p1 r0 r1 F0 F1 B1 F2 B2
          generalize w2 = V at *
          have CN : ∀ j u, [Value.int .i64 0][j]? = some u → (V.alloc (.cells #[.int .i64 0] 3)).cell? ((⟨V.heap.size, 0, none⟩ : Addr).add j) = some u := cell_one_new _ _ _
          have O2 := O1.alloc (.cells #[.int .i64 0] 3)
          have M2 := M1.old (.cells #[.int .i64 0] 3)
          have C2 := C1.old (.cells #[.int .i64 0] 3)
          have D2 := D1.old (.cells #[.int .i64 0] 3)
          have Y2 := Y1.old (.cells #[.int .i64 0] 3)
          have G2 := G1.alloc G1.size (.cells #[.int .i64 0] 3)
          have z2 : w.heap.size + 4 ≤ (V.alloc (.cells #[.int .i64 0] 3)).heap.size := by simp; omega
          go_wp2_with (at_builtin; refine wpList_append_own _ rfl (.tmp 56) (.tmp 58) 22 rfl (w.heap.size + 4) 3 i0 (.int .i64 0) 1 8 Try.underlying22 hi hz0 hz1 hz2 rfl (by decide) _ k (((jn xs ys).take k).map (Value.int .i64)) rfl O2 ⟨V.heap.size, 0, none⟩ 1 1 [.int .i64 0] rfl rfl CN (by intro u hu; simp at hu; subst hu; rfl) (by unfold maxLen; omega) (by omega) z2 ?_; intro v2 w9 hown9 hgrow9 _; have M9 := M2.grown O2 hgrow9 (by omega); have f9 := M9.free 1; have z9 := hgrow9.size; obtain ⟨E', m', c9, rfl, own9⟩ := jn_own HTk.out hdd.out hown9; obtain ⟨q2, q3⟩ := M9.rb)
          have C9 := C2.grown O2 hgrow9 (by omega)
          have D9 := D2.grown O2 hgrow9 (by omega)
          have Y9 := Y2.grown O2 hgrow9 (by omega)
          have G9 := G2.grown hgrow9 G2.size (fun q hq => by have := (O2.lt q hq).1; omega)
          go_roundw
          case rel =>
            exact ⟨k + 1, by omega, by go_num, E', m', c9, C9.other (by show w.heap.size ≠ w.heap.size + 1 + 1 + 1; omega) _, D9.other (by show w.heap.size + 1 ≠ w.heap.size + 1 + 1 + 1; omega) _, Y9.other (by show w.heap.size + 1 + 1 ≠ w.heap.size + 1 + 1 + 1; omega) _, M9.set1 _ _ _, own_set own9 (by omega) 1 _, G9.setCell (by show w.heap.size ≤ w.heap.size + 1 + 1 + 1; omega) _, by simp at z9 ⊢; omega⟩
          case measure => simp [intOf]; omega
    · have g1 : ¬ (k : Int) + 1 ≤ (xs.length : Int) := by omega
      have g2 : ¬ (k : Int) + 1 ≤ (ys.length : Int) := by omega
      obtain rfl : k = max xs.length ys.length := by omega
      rw [List.take_of_length_le (by rw [jn_len]; omega)] at hown
      have hjl : (jn xs ys).length = max xs.length ys.length := jn_len xs ys
      rw [← hjl] at hown g1 g2
      obtain ⟨E', c9, hv, hsl, _⟩ := own_slice hown
      simp only [Value.slice.injEq] at hv
      obtain ⟨rfl, rfl, rfl⟩ := hv
      have hk9 : (jn xs ys).length ≤ 1000 := by omega
      rw [← hjl]
      obtain ⟨q0, q1⟩ := hM.rb
      obtain ⟨t0, t1⟩ := hX.rb
      have f0 := hX.free 0
      have f1 := hX.free 1
      clear hjl hk hlt
      generalize jn xs ys = zs at *
      go_wp2
      have X9 : Ax ((wr.setCell ⟨w.heap.size + 1 + 1, 0, none⟩ (.int .i64 0)).setCell ⟨w.heap.size + 1 + 1, 1, none⟩ (.slice E zs.length d)) (w.heap.size + 1 + 1) 0 E zs.length d := (hX.set0 0).set1 _ _ _
      have O9 := own_set (own_set hown (M := w.heap.size + 1 + 1) (by omega) 0 (.int .i64 0)) (M := w.heap.size + 1 + 1) (by omega) 1 (.slice E zs.length d)
      have E9 : Below w.heap.size w ((wr.setCell ⟨w.heap.size + 1 + 1, 0, none⟩ (.int .i64 0)).setCell ⟨w.heap.size + 1 + 1, 1, none⟩ (.slice E zs.length d)) := (hbel.setCell (by show w.heap.size ≤ w.heap.size + 1 + 1; omega) _).setCell (by show w.heap.size ≤ w.heap.size + 1 + 1; omega) _
      obtain ⟨E2, c2, hv2, hs2, hf2⟩ := own_fresh O9
      simp only [Value.slice.injEq] at hv2
      obtain ⟨rfl, _, rfl⟩ := hv2
      exact bodyPost_ret (run_res25 (B := w.heap.size + 1 + 1) rfl X9.rb) rfl ⟨_, _, rfl, hs2, E9, fr_le hf2 (by omega)⟩

theorem rmerge_any (a b : Int) (A A' : Option Addr) (c c' : Nat) (xs ys : List Int) (w : World) (hx : Sl w w.heap.size .i64 A xs) (hy : Sl w w.heap.size .i64 A' ys) (lx : xs.length ≤ 1000) (ly : ys.length ≤ 1000) : Calls Try.prog 25 #[.agg #[.int .i64 a, .slice A xs.length c], .agg #[.int .i64 b, .slice A' ys.length c']] w (FrPost w (max (max 0 a) b) (jn xs ys)) := by
  by_cases ha : 0 < a
  · by_cases hb : a < b
    · exact rmerge1 a b A A' c c' xs ys w hx hy lx ly ha hb
    · exact rmerge2 a b A A' c c' xs ys w hx hy lx ly ha hb
  · by_cases hb : 0 < b
    · exact rmerge3 a b A A' c c' xs ys w hx hy lx ly ha hb
    · exact rmerge4 a b A A' c c' xs ys w hx hy lx ly ha hb

end Go.Proofs.Ytiedagbboednkaa
